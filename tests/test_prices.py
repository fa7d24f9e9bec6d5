"""Points 9 and 17: wishes, prices and what is sure."""

import time
import unittest
from itertools import combinations

from tests import trials, web_trials
from tests.web_trials import AT_MOST_ONE, EXAMPLE_PARTS, EXAMPLE_WEB, GREAT
from thingwise.errors import CannotBe, InvalidLiteral, InvalidPlace, InvalidTask, NoLot
from thingwise.prices import lot_prices, lots_at, open_places, price, sure, thing_price, with_known
from thingwise.tables import Table
from thingwise.tasks import Task, least_total, parts_of
from thingwise.webs import Web

HUGE = 10 ** 39
EXAMPLE = Task(AT_MOST_ONE, EXAMPLE_WEB, EXAMPLE_PARTS)
OF_WISHES = (thing_price, price, with_known)
OF_PLACES = (lot_prices, lots_at, sure)


def other_word(literal):
    return literal[0], "out" if literal[1] == "in" else "in"


class AgainstAllFillingsTest(unittest.TestCase):

    def test_prices(self):
        seen = set()
        for table, web, parts in web_trials.chosen_tasks(110, 300):
            task = Task(table, web, parts)
            fillings = web_trials.tried_fillings(table, parts)
            costs = {filling: web_trials.tried_cost(web, filling) for filling in fillings}
            total = min(costs.values())
            for place in range(web.places):
                for literal in trials.every_literal(table.things):
                    met = [found for filling, found in costs.items() if trials.does_meet(filling[place], literal)]
                    tried = min(met) - total if met else None
                    self.assertEqual(price(task, place, literal), tried)
                    self.check_thing_price(task, place, literal)
                    seen.add(None if tried is None else min(tried, 1))
                by_lots = {}
                for filling, found in costs.items():
                    by_lots[filling[place]] = min(by_lots.get(filling[place], found), found)
                rows = sorted((found - total, lot) for lot, found in by_lots.items())
                self.assertEqual(lot_prices(task, place), rows)
                self.assertEqual(lots_at(task, place), sorted(lot for more, lot in rows if more == 0))
        self.assertEqual(seen, {None, 0, 1})

    def check_thing_price(self, task, place, literal):
        thing, word = literal
        found = thing_price(task, place, literal)
        if other_word(literal) in task.parts[place]:
            self.assertIsNone(found)
            return
        must, never = web_trials.tried_between(task.parts, thing)
        least = web_trials.tried_least_sides(task.web, must, never)[0]
        if word == "in":
            must += (place,)
        else:
            never += (place,)
        self.assertEqual(found, web_trials.tried_least_sides(task.web, must, never)[0] - least)

    def test_what_is_sure(self):
        sizes = set()
        for table, web, parts in web_trials.chosen_tasks(110, 300):
            task = Task(table, web, parts)
            best = web_trials.tried_best(table, web, parts)[1]
            open_ones = []
            for place in range(web.places):
                lots = {filling[place] for filling in best}
                tried = tuple(literal for literal in trials.every_literal(table.things)
                              if all(trials.does_meet(lot, literal) for lot in lots))
                self.assertEqual(sure(task, place), tried)
                self.assertEqual(lots_at(task, place), sorted(lots))
                if len(lots) > 1:
                    open_ones.append(place)
            self.assertEqual(open_places(task), open_ones)
            sizes.add(len(open_ones))
        self.assertGreater(len(sizes), 3)

    def test_with_known(self):
        for table, web, parts in web_trials.chosen_tasks(70, 300):
            task = Task(table, web, parts)
            for place in range(web.places):
                for literal in trials.every_literal(table.things):
                    self.check_with_known(task, place, literal)
            self.assertEqual(task, Task(table, web, parts))

    def check_with_known(self, task, place, literal):
        known = price(task, place, literal)
        if known is None:
            with self.assertRaises(CannotBe) as caught:
                with_known(task, place, literal)
            self.assertEqual(caught.exception.place, place)
            return
        found = with_known(task, place, literal)
        longer = tuple(sorted({*task.parts[place], literal}))
        parts = task.parts[:place] + (longer,) + task.parts[place + 1:]
        self.assertIs(type(found), Task)
        self.assertEqual((found.table, found.web), (task.table, task.web))
        self.assertEqual(found.parts, web_trials.tried_closures(task.table, parts))
        self.assertEqual(least_total(found), least_total(task) + known)


class ExamplesTest(unittest.TestCase):

    def test_the_example(self):
        self.assertEqual(thing_price(EXAMPLE, 1, (0, "in")), 1)
        self.assertEqual(price(EXAMPLE, 1, (0, "in")), 2)
        self.assertEqual(thing_price(literal=(1, "out"), place=1, task=EXAMPLE), 1)
        self.assertEqual(price(literal=(1, "out"), place=1, task=EXAMPLE), 1)
        self.assertEqual(lot_prices(EXAMPLE, 1), [(0, (1,)), (1, ()), (2, (0,))])
        self.assertEqual(lots_at(place=1, task=EXAMPLE), [(1,)])
        self.assertEqual(sure(place=1, task=EXAMPLE), ((0, "out"), (1, "in")))
        self.assertEqual(open_places(EXAMPLE), [])

    def test_known_places(self):
        self.assertEqual(lot_prices(EXAMPLE, 0), [(0, (0,))])
        self.assertEqual(sure(EXAMPLE, 0), ((0, "in"), (1, "out")))
        for function in (thing_price, price):
            self.assertEqual(function(EXAMPLE, 0, (0, "in")), 0)
            # The part tells nothing of thing 1, its closure does.
            self.assertIsNone(function(Task(AT_MOST_ONE, EXAMPLE_WEB, (((0, "in"),), (), ())), 0, (1, "in")))
        self.assertEqual(with_known(EXAMPLE, 0, (1, "out")), EXAMPLE)
        with self.assertRaises(CannotBe) as caught:
            with_known(EXAMPLE, 2, (0, "in"))
        self.assertEqual(caught.exception.place, 2)

    def test_with_known_brings_the_closure(self):
        task = with_known(literal=(0, "in"), place=1, task=EXAMPLE)
        self.assertEqual(task, Task(AT_MOST_ONE, EXAMPLE_WEB, (EXAMPLE_PARTS[0], EXAMPLE_PARTS[0], EXAMPLE_PARTS[2])))
        self.assertEqual(EXAMPLE.parts, EXAMPLE_PARTS)

    def test_equal_weights(self):
        task = Task(AT_MOST_ONE, Web(3, [(0, 1, 5), (1, 2, 5)]), EXAMPLE_PARTS)
        self.assertEqual(lot_prices(task, 1), [(0, ()), (0, (0,)), (0, (1,))])
        self.assertEqual(lots_at(task, 1), [(), (0,), (1,)])
        self.assertEqual((sure(task, 1), open_places(task)), ((), [1]))
        self.assertEqual([price(task, 1, (thing, word)) for thing in (0, 1) for word in ("in", "out")], [0] * 4)

    def test_what_no_filling_meets(self):
        task = Task(Table(3, [(0,), (0, 1)]), Web(2, [(0, 1, 4)]), ((), ()))
        for literal in ((0, "out"), (2, "in")):
            self.assertIsNone(price(task, 1, literal))
            self.assertIsNone(thing_price(task, 1, literal))
            self.assertRaises(CannotBe, with_known, task, 1, literal)
        self.assertEqual(sure(task, 0), ((0, "in"), (2, "out")))
        self.assertEqual(open_places(task), [0, 1])

    def test_one_lot_and_one_place(self):
        task = Task(Table(2, [(1,)]), Web(1, []), ((),))
        self.assertEqual(lot_prices(task, 0), [(0, (1,))])
        self.assertEqual(sure(task, 0), ((0, "out"), (1, "in")))
        self.assertEqual((lots_at(task, 0), open_places(task)), ([(1,)], []))
        self.assertEqual((price(task, 0, (1, "in")), price(task, 0, (0, "in"))), (0, None))

    def test_no_ties(self):
        task = Task(AT_MOST_ONE, Web(3, []), EXAMPLE_PARTS)
        self.assertEqual(lot_prices(task, 1), [(0, ()), (0, (0,)), (0, (1,))])
        self.assertEqual((sure(task, 1), open_places(task)), ((), [1]))

    def test_thing_price_without_price(self):
        """What the literal brings costs, too: the thing price is less than the price."""
        table = Table(2, [(), (1,), (0, 1)])
        task = Task(table, Web(2, [(0, 1, 7)]), parts_of(2, [(), None]))
        self.assertEqual((thing_price(task, 1, (0, "in")), price(task, 1, (0, "in"))), (7, 14))
        self.assertEqual((thing_price(task, 1, (1, "in")), price(task, 1, (1, "in"))), (7, 7))
        self.assertEqual(lot_prices(task, 1), [(0, ()), (7, (1,)), (14, (0, 1))])

    def test_results_are_new(self):
        for function in OF_PLACES[:2]:
            first = list(function(EXAMPLE, 1))
            function(EXAMPLE, 1).append("x")
            self.assertEqual(function(EXAMPLE, 1), first)
        open_places(EXAMPLE).append("x")
        self.assertEqual(open_places(EXAMPLE), [])
        self.assertIs(type(sure(EXAMPLE, 1)), tuple)


class WrongArgumentsTest(unittest.TestCase):

    def test_the_first_wrong_one(self):
        for wrong in (None, True, 0, "", (), [], HUGE, AT_MOST_ONE, EXAMPLE_WEB, (AT_MOST_ONE, EXAMPLE_WEB, EXAMPLE_PARTS),
                      Task, NoLot("x")):
            for function in OF_WISHES:
                self.assertRaises(InvalidTask, function, wrong, wrong, wrong)
            for function in OF_PLACES:
                self.assertRaises(InvalidTask, function, wrong, wrong)
            self.assertRaises(InvalidTask, open_places, wrong)
        for wrong in (None, True, False, -1, 3, HUGE, "", "0", (), (0,), [], [0], EXAMPLE):
            for function in OF_WISHES:
                self.assertRaises(InvalidPlace, function, EXAMPLE, wrong, wrong)
            for function in OF_PLACES:
                self.assertRaises(InvalidPlace, function, EXAMPLE, wrong)
        for wrong in (None, True, 0, "in", (), (0,), (0, "on"), (2, "in"), (-1, "in"), (True, "in"), ("0", "in"), [0, "in"],
                      (0, "in", 0), ((0, "in"),), (HUGE, "out"), EXAMPLE):
            for function in OF_WISHES:
                self.assertRaises(InvalidLiteral, function, EXAMPLE, 1, wrong)
                # Of a literal that cannot be asked of place 0 the kind is asked first, too.
                self.assertRaises(InvalidLiteral, function, EXAMPLE, 0, wrong)


class LargestTest(unittest.TestCase):
    """The limit is far above what is needed, so that a slow machine does not fail."""

    def test_a_great_task(self):
        started = time.perf_counter()
        web = Web(9, [(low, high, GREAT - 10 ** 10 * low - high) for low, high in combinations(range(9), 2)])
        task = Task(Table(6, trials.every_lot(6)), web, parts_of(6, [(0, 1, 2), (1, 3, 5), (2, 3, 4)] + [None] * 6))
        self.assertEqual(open_places(task), [])
        for place in range(9):
            rows = lot_prices(task, place)
            self.assertEqual(len(rows), 1 if place < 3 else 64)
            self.assertEqual([lot for more, lot in rows if more == 0], lots_at(task, place))
            self.assertEqual(len(sure(task, place)), 6)
        dear = lot_prices(task, 8)[-1]
        known = task
        for literal in trials.every_literal(6):
            if trials.does_meet(dear[1], literal):
                known = with_known(known, 8, literal)
        self.assertEqual(least_total(known) - least_total(task), dear[0])
        self.assertGreater(dear[0], GREAT)
        self.assertLess(time.perf_counter() - started, 10)


if __name__ == "__main__":
    unittest.main()
