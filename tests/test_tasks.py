"""Points 8 and 16: tasks, fillings and what shows that they are best."""

import random
import time
import unittest
from itertools import combinations, product

from tests import trials, web_trials
from tests.web_trials import AT_MOST_ONE, EXAMPLE_PARTS, EXAMPLE_WEB, GREAT
from thingwise.errors import (
    CannotBe, InvalidFilling, InvalidLot, InvalidParts, InvalidTable, InvalidThings, InvalidWeb, NoLot, NotClosed)
from thingwise.tables import Table, table_of
from thingwise.tasks import (
    Task, best_toward, cost, fills, flows, least_total, parts_of, shows_best, star_against, thing_cuts, tried_total)
from thingwise.webs import Web

HUGE = 10 ** 39
LOOSE = Table(3, [(0,), (1,), (2,)])
EXAMPLE = Task(AT_MOST_ONE, EXAMPLE_WEB, EXAMPLE_PARTS)
ODD_VALUES = (None, True, False, 0, 1, HUGE, "", "0 1", (), [], [[]], ((),), [()], (None,), NoLot("x"), AT_MOST_ONE,
              EXAMPLE_WEB, EXAMPLE, Task, [[[[[[[[[["in"]]]]]]]]]])


class TaskTest(unittest.TestCase):

    def test_parts_are_closures(self):
        for table, web, parts in web_trials.chosen_tasks(80, 500):
            task = Task(table, web, parts)
            self.assertEqual((task.table, task.web), (table, web))
            self.assertIs(type(task.parts), tuple)
            self.assertEqual(task.parts, web_trials.tried_closures(table, parts))

    def test_example(self):
        task = Task(parts=(((0, "in"),), (), ((1, "in"),)), web=EXAMPLE_WEB, table=AT_MOST_ONE)
        self.assertEqual(task.parts, EXAMPLE_PARTS)
        self.assertEqual(task, EXAMPLE)
        self.assertEqual(Task(Table(2, [(1,)]), Web(1, []), ((),)).parts, (((0, "out"), (1, "in")),))

    def test_equal(self):
        web, parts = EXAMPLE_WEB, EXAMPLE_PARTS
        self.assertTrue(EXAMPLE == Task(Table(2, [(1,), (0,), ()]), Web(3, web.ties[::-1]), parts))
        self.assertFalse(EXAMPLE != Task(AT_MOST_ONE, web, parts))
        for other in (Task(Table(2, [(), (0,), (1,), (0, 1)]), web, parts), Task(AT_MOST_ONE, Web(3, []), parts),
                      Task(AT_MOST_ONE, web, ((), (), ())), Task(AT_MOST_ONE, web, parts[::-1]),
                      AT_MOST_ONE, web, parts, (AT_MOST_ONE, web, parts), None, True, 0, "", [], NoLot("x"), Task):
            self.assertIs(EXAMPLE == other, False)
            self.assertIs(other == EXAMPLE, False)
            self.assertIs(EXAMPLE != other, True)

    def test_fields_cannot_be_assigned(self):
        for field in ("table", "web", "parts"):
            with self.assertRaises(AttributeError):
                setattr(EXAMPLE, field, None)

    def test_errors_in_their_order(self):
        bad_part, no_fit = (((0, "in"), (0, "out")), (), ()), (((0, "in"), (1, "in")), (), ())
        for make in (Task, tried_total):
            for wrong in (None, True, 2, [()], (), EXAMPLE_WEB, Table):
                self.assertRaises(InvalidTable, make, wrong, wrong, wrong)
            for wrong in (None, True, 3, [], (3, []), LOOSE, Web):
                self.assertRaises(InvalidWeb, make, LOOSE, wrong, bad_part)
            self.assertRaises(InvalidParts, make, LOOSE, EXAMPLE_WEB, bad_part)
        self.assertRaises(NotClosed, Task, LOOSE, EXAMPLE_WEB, no_fit)
        self.assertRaises(NotClosed, Task, LOOSE, EXAMPLE_WEB, ((), (), ()))

    def test_wrong_parts(self):
        for wrong in (None, True, 0, "", (), [], [(), (), ()], ((), ()), ((), (), (), ()), ((), (), []), ((), None, ()),
                      ((0, "in"), (), ()), ((), (), ((2, "in"),)), ((((0, "in"),),), (), ()), (((0, "on"),), (), ()),
                      ((), ((True, "in"),), ()), (((1, "in"), (0, "in")), (), ()), ((), ([0, "in"],), ()), EXAMPLE,
                      ((), (), ((HUGE, "out"),)), ("", "", "")):
            self.assertRaises(InvalidParts, Task, AT_MOST_ONE, EXAMPLE_WEB, wrong)
            self.assertRaises(InvalidParts, tried_total, AT_MOST_ONE, EXAMPLE_WEB, wrong)

    def test_the_first_place_that_cannot_be(self):
        barred = ((0, "in"), (1, "in"))
        for make in (Task, tried_total):
            for places in range(1, 5):
                for words in product((True, False), repeat=places):
                    if not all(words):
                        with self.assertRaises(CannotBe) as caught:
                            make(AT_MOST_ONE, Web(places, []), tuple(() if word else barred for word in words))
                        self.assertEqual(caught.exception.place, words.index(False))

    def test_a_part_that_two_rules_bar(self):
        table = table_of(3, [((0, "out"), (1, "in")), ((1, "out"), (2, "in"))])
        with self.assertRaises(CannotBe) as caught:
            Task(table, Web(2, []), (((0, "in"),), ((0, "in"), (2, "out"))))
        self.assertEqual(caught.exception.place, 1)


class PartsOfTest(unittest.TestCase):

    def test_all_lots(self):
        for things in (1, 2, 3, 6):
            lots = trials.every_lot(things)
            found = parts_of(things, lots + [None] + lots)
            self.assertIs(type(found), tuple)
            self.assertEqual(found, found[:len(lots)] + ((),) + found[:len(lots)])
            for lot, part in zip(lots, found):
                self.assertEqual(part, tuple(one for one in trials.every_literal(things) if trials.does_meet(lot, one)))

    def test_examples(self):
        self.assertEqual(parts_of(2, [(0,), None, (1,)]), EXAMPLE_PARTS)
        self.assertEqual(parts_of(lots=[None], things=1), ((),))
        lots = [(0,), None]
        parts_of(1, lots)
        self.assertEqual(lots, [(0,), None])

    def test_wrong(self):
        for wrong in (None, True, 0, -1, "", (), [1]):
            self.assertRaises(InvalidThings, parts_of, wrong, None)
        for wrong in (None, True, 0, "", "0", ((),), (0,), ((0,), None), [0], [True], [""], [[]], [[0]], [(2,)], [(1, 0)],
                      [(0, 0)], [(True,)], [(-1,)], [("0",)], [(), None, (2,)], [None, False], [((0,),)], [(HUGE,)],
                      EXAMPLE, [EXAMPLE]):
            self.assertRaises(InvalidLot, parts_of, 2, wrong)


class CostTest(unittest.TestCase):

    def test_cost(self):
        chance = random.Random(8)
        for web in web_trials.chosen_webs(40, 9):
            for things in (1, 2, 6):
                filling = tuple(chance.choice(trials.every_lot(things)) for _ in range(web.places))
                self.assertEqual(cost(web, filling), web_trials.tried_cost(web, filling))

    def test_examples(self):
        self.assertEqual(cost(EXAMPLE_WEB, ((0,), (1,), (1,))), 4)
        self.assertEqual(cost(filling=((0, 7, HUGE), (7, HUGE + 1), (7,)), web=EXAMPLE_WEB), 2 * 3 + 3 * 1)
        self.assertEqual(cost(Web(1, []), ((0,),)), 0)
        self.assertEqual(cost(Web(2, [(0, 1, GREAT)]), ((), (0, 1, 2, 3, 4, 5))), 6 * GREAT)

    def test_wrong_fillings(self):
        for wrong in (None, True, 0, "", (), ((),), ((), ()), ((), (), (), ()), [(), (), ()], ((), (), []), ((), (), None),
                      ((1, 0), (), ()), ((0, 0), (), ()), ((), (-1,), ()), ((), (True,), ()), ((), ("0",), ()),
                      (0, 1, 2), ((), (), ((),)), "012", EXAMPLE):
            self.assertRaises(InvalidFilling, cost, EXAMPLE_WEB, wrong)
            self.assertRaises(InvalidWeb, cost, wrong, wrong)


class FillsTest(unittest.TestCase):

    def test_all_fillings(self):
        for table, web, parts in web_trials.chosen_tasks(40, 300):
            if web.places <= 3 and table.things <= 3:
                task, right = Task(table, web, parts), web_trials.tried_fillings(table, parts)
                for filling in product(trials.every_lot(table.things), repeat=web.places):
                    self.assertIs(fills(task, filling), filling in right)

    def test_any_value(self):
        self.assertIs(fills(EXAMPLE, ((0,), (), (1,))), True)
        self.assertIs(fills(value=((0,), (1,), (1,)), task=EXAMPLE), True)
        for value in ODD_VALUES + (
                ((0,), (1,)), ((0,), (), (1,), ()), [(0,), (), (1,)], ((0,), [], (1,)), ((0,), None, (1,)),
                ((0,), (0, 1), (1,)), ((1,), (), (1,)), ((0,), (), ()), ((False,), (), (1,)), ((0,), (), (True,)),
                ((0,), (2,), (1,)), (0, (), 1), ((0,), "", (1,)), ((0,), ((),), (1,)), (AT_MOST_ONE,) * 3,
                ((0,), (1, 1), (1,)), ((0,), (HUGE,), (1,))):
            self.assertIs(fills(EXAMPLE, value), False, value)
        self.assertIs(fills(Task(AT_MOST_ONE, Web(1, []), ((),)), ((True,),)), False)
        self.assertIs(fills(Task(AT_MOST_ONE, Web(1, []), ((),)), ((1,),)), True)


class TotalTest(unittest.TestCase):

    def test_against_all_fillings(self):
        for table, web, parts in web_trials.chosen_tasks(150, 400):
            task = Task(table, web, parts)
            total, best = web_trials.tried_best(table, web, parts)
            self.assertEqual(least_total(task), total)
            self.assertEqual(tried_total(table, web, parts), total)
            cuts = thing_cuts(task)
            self.assertEqual((type(cuts), len(cuts)), (list, table.things))
            for thing, found in enumerate(cuts):
                must, never = web_trials.tried_between(task.parts, thing)
                least, sides = web_trials.tried_least_sides(web, must, never)
                self.assertEqual(found[0], least)
                self.assertTrue(all(set(found[1]) <= set(side) <= set(found[2]) for side in sides))
                self.assertTrue(found[1] in sides and found[2] in sides)
            for toward in table.lots:
                self.check_toward(task, toward, best)

    def check_toward(self, task, toward, best):
        filling = best_toward(task, toward)
        self.assertIn(filling, best)
        self.assertIs(fills(task, filling), True)
        for place, lot in enumerate(filling):
            for thing in range(task.table.things):
                possible = any((thing in other[place]) == (thing in toward) for other in best)
                self.assertEqual((thing in lot) == (thing in toward), possible)

    def test_example(self):
        self.assertEqual(thing_cuts(EXAMPLE), [(2, (0,), (0,)), (2, (1, 2), (1, 2))])
        self.assertEqual(least_total(EXAMPLE), 4)
        for toward in AT_MOST_ONE:
            self.assertEqual(best_toward(toward=toward, task=EXAMPLE), ((0,), (1,), (1,)))
        self.assertEqual(tried_total(AT_MOST_ONE, EXAMPLE_WEB, EXAMPLE_PARTS), 4)

    def test_toward_a_lot_that_is_not_there(self):
        task = Task(AT_MOST_ONE, Web(3, []), EXAMPLE_PARTS)
        self.assertEqual(best_toward(task, ()), ((0,), (), (1,)))
        self.assertEqual(best_toward(task, (0,)), ((0,), (0,), (1,)))
        for wrong in ODD_VALUES + ((0, 1), (2,), (True,), (False,), [0], (0, 0)):
            if wrong != ():
                self.assertRaises(InvalidLot, best_toward, task, wrong)

    def test_nothing_known(self):
        for table in trials.closed_tables(1):
            web = Web(4, [(0, 1, 2), (1, 2, 3), (0, 2, GREAT)])
            task = Task(table, web, ((),) * 4)
            self.assertEqual(least_total(task), 0)
            for toward in table:
                self.assertEqual(best_toward(task, toward), (toward,) * 4)

    def test_one_lot(self):
        task = Task(Table(3, [(0, 2)]), EXAMPLE_WEB, ((), ((0, "in"),), ()))
        self.assertEqual(least_total(task), 0)
        self.assertEqual(best_toward(task, (0, 2)), ((0, 2),) * 3)
        self.assertEqual(thing_cuts(task), [(0, (0, 1, 2), (0, 1, 2)), (0, (), ()), (0, (0, 1, 2), (0, 1, 2))])
        self.assertIs(shows_best(task, ((0, 2),) * 3, flows(task)), True)

    def test_tables_that_are_not_closed(self):
        chance = random.Random(12)
        webs = [web for web in web_trials.chosen_webs(40, 4) if web.places > 1]
        for things, lots in trials.all_lists_of_lots(2):
            table, web = Table(things, lots), chance.choice(webs)
            parts = tuple(web_trials.chosen_part(chance, table) for _ in range(web.places))
            if web_trials.count_fillings(table, parts) <= 300:
                self.assertEqual(tried_total(table, web, parts), web_trials.tried_best(table, web, parts)[0])
        star = Web(4, [(0, 3, 1), (1, 3, 1), (2, 3, 1)])
        self.assertEqual(tried_total(LOOSE, star, (((0, "in"),), ((1, "in"),), ((2, "in"),), ())), 4)
        self.assertEqual(tried_total(parts=(((0, "out"),), ()), table=LOOSE, web=Web(2, [(0, 1, 2)])), 0)


class ShowsBestTest(unittest.TestCase):

    def test_against_all_fillings(self):
        for table, web, parts in web_trials.chosen_tasks(80, 200):
            task = Task(table, web, parts)
            found = flows(task)
            self.assertEqual((type(found), len(found)), (list, table.things))
            for thing, rows in enumerate(found):
                must, never = web_trials.tried_between(task.parts, thing)
                worth = web_trials.tried_worth(web, must, never, rows)
                self.assertEqual(worth, web_trials.tried_least_sides(web, must, never)[0])
            best = web_trials.tried_best(table, web, parts)[1]
            for filling in web_trials.tried_fillings(table, parts):
                self.assertIs(shows_best(task, filling, found), filling in best)
            self.check_lesser_flows(task, best[0], found)

    def check_lesser_flows(self, task, filling, found):
        """A flow that sends less shows nothing."""
        for thing, rows in enumerate(found):
            lesser = found[:thing] + [[]] + found[thing + 1:]
            self.assertIs(shows_best(task, filling, lesser), rows == [])

    def test_example(self):
        best, right = ((0,), (1,), (1,)), [[(0, 1, 2), (1, 2, 2)], [(1, 0, 2), (2, 1, 2)]]
        self.assertIs(shows_best(EXAMPLE, best, right), True)
        self.assertIs(shows_best(other_value=right, value=best, task=EXAMPLE), True)
        self.assertIs(shows_best(EXAMPLE, best, flows(EXAMPLE)), True)
        for filling in (((0,), (), (1,)), ((0,), (0,), (1,)), ((0,), (1,), ()), ((1,), (1,), (1,)), ((0,), (0, 1), (1,))):
            self.assertIs(shows_best(EXAMPLE, filling, right), False)
        self.assertEqual(right, [[(0, 1, 2), (1, 2, 2)], [(1, 0, 2), (2, 1, 2)]])

    def test_a_cost_that_is_no_sum_of_worths(self):
        """A filling that is not the best one has a greater cost than all flows; a lesser sum shows nothing either."""
        best = ((0,), (1,), (1,))
        for first in ([], [(0, 1, 1), (1, 2, 1)], [(1, 0, 2), (2, 1, 2)]):
            self.assertIs(shows_best(EXAMPLE, best, [first, [(1, 0, 2), (2, 1, 2)]]), False)
        self.assertIs(shows_best(EXAMPLE, best, [[(0, 1, 2), (1, 2, 3)], [(1, 0, 2), (2, 1, 2)]]), False)
        self.assertIs(shows_best(EXAMPLE, best, [[(0, 1, 4), (1, 2, 4)], []]), False)
        self.assertIs(shows_best(EXAMPLE, best, [[(1, 0, 2), (2, 1, 2)], [(0, 1, 2), (1, 2, 2)]]), False)

    def test_any_values(self):
        best, right = ((0,), (1,), (1,)), flows(EXAMPLE)
        for value in ODD_VALUES + (list(best), best[:2], best + ((),), ((0,), (True,), (1,))):
            self.assertIs(shows_best(EXAMPLE, value, right), False)
            self.assertIs(shows_best(EXAMPLE, value, value), False)
        for value in ODD_VALUES + (
                tuple(right), right[:1], right + [[]], [right[0], None], [None, right[1]], [right[0], tuple(right[1])],
                [right[0], right[1] + [None]], [right[0], [(True, 0, 2), (2, True, 2)]], [right[0], 2], [2, 2],
                [right[0], right], {0: right[0], 1: right[1]}):
            self.assertIs(shows_best(EXAMPLE, best, value), False)

    def test_no_ties_need_no_flows(self):
        task = Task(AT_MOST_ONE, Web(3, []), EXAMPLE_PARTS)
        self.assertEqual(flows(task), [[], []])
        for lot in AT_MOST_ONE:
            self.assertIs(shows_best(task, ((0,), lot, (1,)), [[], []]), True)

    def test_results_are_new(self):
        first = flows(EXAMPLE)
        first[0].append("x")
        first.append("x")
        thing_cuts(EXAMPLE).append("x")
        self.assertIs(shows_best(EXAMPLE, ((0,), (1,), (1,)), flows(EXAMPLE)), True)
        self.assertEqual(len(thing_cuts(EXAMPLE)), 2)


class StarTest(unittest.TestCase):

    def check_star(self, table, found):
        self.assertEqual((type(found), len(found)), (tuple, 4))
        web, parts, thing_by_thing, least = found
        self.assertEqual(web, Web(4, [(0, 3, 1), (1, 3, 1), (2, 3, 1)]))
        lots = [tuple(thing for thing, word in part if word == "in") for part in parts[:3]]
        self.assertTrue(all(lot in table.lots for lot in lots))
        self.assertNotIn(trials.tried_middle(lots), table.lots)
        self.assertEqual(parts, parts_of(table.things, lots + [None]))
        # Each thing by itself is settled best where most of the three have it.
        self.assertEqual(thing_by_thing, web_trials.tried_cost(web, tuple(lots) + (trials.tried_middle(lots),)))
        self.assertEqual(least, min(web_trials.tried_cost(web, tuple(lots) + (lot,)) for lot in table.lots))
        self.assertLess(thing_by_thing, least)

    def test_all_tables(self):
        count = 0
        for things, lots in trials.all_lists_of_lots(6):
            table = Table(things, lots)
            found = star_against(table)
            if trials.is_tried_closed(lots):
                self.assertIsNone(found)
            else:
                count += 1
                self.check_star(table, found)
                other = star_against(Table(things, lots[::-1]))
                self.assertEqual(found, other)
        self.assertGreater(count, 50)

    def test_examples(self):
        self.assertIsNone(star_against(AT_MOST_ONE))
        self.assertEqual(star_against(table=LOOSE)[2:], (3, 4))


class LargestTest(unittest.TestCase):
    """The limit is far above what is needed, so that a slow machine does not fail."""

    def setUp(self):
        self.started = time.perf_counter()

    def tearDown(self):
        self.assertLess(time.perf_counter() - self.started, 10)

    def test_a_great_task(self):
        web = Web(9, [(low, high, GREAT - 10 ** 10 * low - high) for low, high in combinations(range(9), 2)])
        table = Table(6, trials.every_lot(6))
        parts = parts_of(6, [(0, 1, 2), (1, 3, 5), (2, 3, 4)] + [None] * 6)
        task = Task(table, web, parts)
        filling = best_toward(task, (0, 5))
        self.assertEqual(web_trials.tried_cost(web, filling), least_total(task))
        self.assertIs(shows_best(task, filling, flows(task)), True)
        self.assertGreater(least_total(task), GREAT)

    def test_many_fillings(self):
        web = Web(9, [(low, high, GREAT) for low, high in combinations(range(9), 2)])
        parts = (((0, "in"),), ((1, "in"),)) + ((),) * 7
        self.assertEqual(web_trials.count_fillings(AT_MOST_ONE, parts), 3 ** 7)
        self.assertEqual(tried_total(AT_MOST_ONE, web, parts), least_total(Task(AT_MOST_ONE, web, parts)))
        star = star_against(Table(6, trials.every_lot(6)[1:]))
        self.assertEqual(star[2] + 1, star[3])


if __name__ == "__main__":
    unittest.main()
