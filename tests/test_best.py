"""Points 9 and 18: wishes together, and all best fillings."""

import time
import unittest
from itertools import combinations, product

from tests import trials, web_trials
from tests.web_trials import AT_MOST_ONE, EXAMPLE_PARTS, EXAMPLE_WEB, GREAT
from thingwise.best import barred, best_fillings, best_with, count_best, extra, is_best, middle_filling
from thingwise.errors import InvalidFilling, InvalidTask, InvalidWishes, NoLot
from thingwise.prices import lots_at, open_places, price
from thingwise.tables import Table
from thingwise.tasks import Task, best_toward, least_total, parts_of
from thingwise.webs import Web

HUGE = 10 ** 39
EXAMPLE = Task(AT_MOST_ONE, EXAMPLE_WEB, EXAMPLE_PARTS)
BEST = ((0,), (1,), (1,))
ODD_VALUES = (None, True, False, 0, HUGE, "", "0 1 1", (), [], (None,), [((0,), (1,), (1,))], list(BEST), BEST + ((),),
              BEST[:2], ([0], [1], [1]), ((0,), (True,), (1,)), ((False,), (1,), (1,)), ((0,), (1,), ("1",)), NoLot("x"),
              ((0,), 1, (1,)), AT_MOST_ONE, EXAMPLE_WEB, EXAMPLE, Task, [[[[[[[[[["in"]]]]]]]]]])


def costs_of(table, web, parts):
    return {filling: web_trials.tried_cost(web, filling) for filling in web_trials.tried_fillings(table, parts)}


class AgainstAllFillingsTest(unittest.TestCase):

    def test_wishes(self):
        seen = set()
        for table, web, parts in [*web_trials.chosen_tasks(90, 300), *web_trials.open_tasks(28, 300)]:
            task = Task(table, web, parts)
            costs = costs_of(table, web, parts)
            best = [filling for filling, found in costs.items() if found == min(costs.values())]
            for wishes in web_trials.chosen_wishes(table, web, 12):
                before = list(wishes)
                tried = web_trials.tried_extra(costs, wishes)
                self.assertEqual(extra(task, wishes), tried)
                found = barred(task, wishes)
                self.assertEqual(found, web_trials.tried_barred(best, wishes))
                filling = best_with(task, wishes)
                if tried == 0:
                    self.assertIn(filling, best)
                    self.assertTrue(web_trials.does_meet_all(filling, wishes))
                else:
                    self.assertIsNone(filling)
                self.assertEqual(wishes, before)
                seen.add((None if tried is None else min(tried, 1), None if found is None else len(found)))
        self.assertEqual(seen, {(0, None), (1, 1), (1, 2), (None, 1), (None, 2)})

    def test_best_fillings(self):
        sizes = set()
        for table, web, parts in [*web_trials.chosen_tasks(150, 400), *web_trials.open_tasks(70, 400)]:
            task = Task(table, web, parts)
            costs = costs_of(table, web, parts)
            best = sorted(filling for filling, found in costs.items() if found == min(costs.values()))
            self.assertEqual(best_fillings(task), best)
            self.assertEqual(count_best(task), len(best))
            for filling in costs:
                self.assertIs(is_best(task, filling), filling in best)
            sizes.add(len(best))
        self.assertIn(1, sizes)
        self.assertGreater(max(sizes), 100)
        self.assertGreater(len(sizes), 15)

    def test_places_that_bring_one_another_by_way_of_others(self):
        """A row of steps that lead on at each place to the next thing, at each tie to the next place."""
        table = Table(3, [(), (0,), (0, 1), (0, 1, 2)])
        for weights in product((1, 2), repeat=4):
            web = Web(5, [(place, place + 1, weight) for place, weight in enumerate(weights)])
            parts = parts_of(3, [(), None, None, None, (0, 1, 2)])
            self.assertEqual(best_fillings(Task(table, web, parts)), web_trials.tried_best(table, web, parts)[1])

    def test_with_the_same_answers(self):
        for table, web, parts in web_trials.chosen_tasks(60, 300):
            task = Task(table, web, parts)
            best = best_fillings(task)
            for place in range(web.places):
                self.assertEqual(sorted({filling[place] for filling in best}), lots_at(task, place))
                for literal in trials.every_literal(table.things):
                    self.assertEqual(extra(task, [(place, literal)]), price(task, place, literal))
                    barred_one = None if price(task, place, literal) == 0 else ((place, literal),)
                    self.assertEqual(barred(task, [(place, literal)]), barred_one)
            self.assertEqual(count_best(task) == 1, open_places(task) == [])
            for toward in table:
                self.assertIn(best_toward(task, toward), best)


class ExamplesTest(unittest.TestCase):

    def test_the_example(self):
        self.assertEqual(best_fillings(EXAMPLE), [BEST])
        self.assertEqual(count_best(EXAMPLE), 1)
        self.assertIs(is_best(EXAMPLE, BEST), True)
        self.assertIs(is_best(EXAMPLE, ((0,), (), (1,))), False)
        self.assertEqual(extra(EXAMPLE, [(1, (0, "in"))]), 2)
        self.assertEqual(extra(wishes=[(1, (1, "out"))], task=EXAMPLE), 1)
        self.assertEqual(extra(EXAMPLE, [(1, (1, "out")), (1, (0, "out"))]), 1)
        self.assertIsNone(extra(EXAMPLE, [(1, (0, "in")), (1, (1, "in"))]))
        self.assertEqual(barred(wishes=[(1, (1, "in")), (1, (0, "in"))], task=EXAMPLE), ((1, (0, "in")),))
        self.assertEqual(best_with(wishes=[(1, (1, "in"))], task=EXAMPLE), BEST)
        self.assertIsNone(best_with(EXAMPLE, [(1, (1, "out"))]))

    def test_no_wishes(self):
        for table, web, parts in web_trials.chosen_tasks(20, 300):
            task = Task(table, web, parts)
            self.assertEqual((extra(task, []), barred(task, [])), (0, None))
            self.assertTrue(is_best(task, best_with(task, [])))

    def test_twice_and_contrary(self):
        task = Task(AT_MOST_ONE, Web(2, []), ((), ((0, "in"),)))
        here, not_here, also = (0, (0, "in")), (0, (0, "out")), (0, (1, "in"))
        self.assertEqual((extra(task, [here, here]), barred(task, [here, here])), (0, None))
        self.assertEqual((extra(task, [not_here, here]), barred(task, [not_here, here])), (None, (here, not_here)))
        self.assertEqual((extra(task, [also, here, also]), barred(task, [also, here, also])), (None, (here, also)))
        self.assertEqual((extra(task, [not_here, also]), barred(task, [not_here, also])), (0, None))
        self.assertEqual(best_with(task, [also, not_here, also]), ((1,), (0,)))
        # One wish alone comes ahead of two, also where two lesser ones do not go together.
        dear = (1, (1, "in"))
        self.assertEqual(barred(task, [also, here, dear]), (dear,))
        self.assertEqual(barred(task, [(1, (0, "out")), dear]), ((1, (0, "out")),))

    def test_contrary_to_what_is_known(self):
        self.assertIsNone(extra(EXAMPLE, [(0, (0, "out"))]))
        self.assertEqual(barred(EXAMPLE, [(2, (0, "in")), (0, (0, "out"))]), ((0, (0, "out")),))
        self.assertEqual(extra(EXAMPLE, [(0, (0, "in")), (2, (0, "out"))]), 0)

    def test_places_without_a_tie(self):
        task = Task(AT_MOST_ONE, Web(3, []), EXAMPLE_PARTS)
        self.assertEqual(best_fillings(task), [((0,), lot, (1,)) for lot in ((), (0,), (1,))])
        self.assertEqual(best_fillings(Task(Table(1, [(0,)]), Web(1, []), ((),))), [((0,),)])
        self.assertEqual(best_fillings(Task(Table(1, [(), (0,)]), Web(1, []), ((),))), [((),), ((0,),)])

    def test_any_value(self):
        for value in ODD_VALUES:
            self.assertIs(is_best(EXAMPLE, value), False)
        self.assertIs(is_best(value=BEST, task=EXAMPLE), True)

    def test_results_are_new(self):
        best_fillings(EXAMPLE).append("x")
        self.assertEqual(best_fillings(EXAMPLE), [BEST])


class MiddleFillingTest(unittest.TestCase):

    def test_place_by_place(self):
        lots = trials.every_lot(3)
        for three in product(lots, repeat=3):
            fillings = [(lot, ()) for lot in three]
            self.assertEqual(middle_filling(*fillings), (trials.tried_middle(three), ()))
        self.assertEqual(middle_filling(((), (1,)), ((0,), (1,)), ((0,), (2,))), ((0,), (1,)))
        found = middle_filling(third_filling=((HUGE,),), filling=((1, HUGE),), other_filling=((1,),))
        self.assertEqual(found, ((1, HUGE),))

    def test_wrong(self):
        pair = ((), (0,))
        for wrong in (None, True, 0, "", (), [], [(), (0,)], ((), [0]), ((), 0), ((), None), ((), (1, 0)), ((), (True,)),
                      ((), (-1,)), ((), (0, 0)), EXAMPLE, AT_MOST_ONE):
            self.assertRaises(InvalidFilling, middle_filling, wrong, pair, pair)
            self.assertRaises(InvalidFilling, middle_filling, pair, wrong, pair)
            self.assertRaises(InvalidFilling, middle_filling, pair, pair, wrong)
        for wrong in (((),), ((), (), ())):
            self.assertRaises(InvalidFilling, middle_filling, pair, wrong, pair)
            self.assertRaises(InvalidFilling, middle_filling, pair, pair, wrong)
            self.assertRaises(InvalidFilling, middle_filling, wrong, pair, pair)


class WrongArgumentsTest(unittest.TestCase):

    def test_task(self):
        for wrong in (None, True, 0, "", (), [], AT_MOST_ONE, EXAMPLE_WEB, (AT_MOST_ONE, EXAMPLE_WEB, EXAMPLE_PARTS),
                      Task):
            for function in (extra, barred, best_with, is_best):
                self.assertRaises(InvalidTask, function, wrong, wrong)
            for function in (best_fillings, count_best):
                self.assertRaises(InvalidTask, function, wrong)

    def test_wishes(self):
        right = (1, (0, "in"))
        for wrong in (None, True, 0, "", (), (right,), right, {right: True}, EXAMPLE):
            for function in (extra, barred, best_with):
                self.assertRaises(InvalidWishes, function, EXAMPLE, wrong)
        for wrong in (None, 0, (), (1,), (0, "in"), [1, (0, "in")], (1, [0, "in"]), (1, (0, "in"), 0), (3, (0, "in")),
                      (-1, (0, "in")), (True, (0, "in")), (1, (2, "in")), (1, (True, "in")), (1, (0, "on")),
                      (1, (-1, "in")), (1, (HUGE, "in")), (HUGE, (0, "in")), ("1", (0, "in")), ((0, "in"), 1),
                      (1, ("0", "in")), (1, (0, None)), EXAMPLE):
            for wishes in ([wrong], [right, wrong], [wrong, right, right]):
                for function in (extra, barred, best_with):
                    self.assertRaises(InvalidWishes, function, EXAMPLE, wishes)


class LargestTest(unittest.TestCase):
    """The limit is far above what is needed, so that a slow machine does not fail."""

    def setUp(self):
        self.started = time.perf_counter()

    def tearDown(self):
        self.assertLess(time.perf_counter() - self.started, 20)

    def test_many_best_fillings(self):
        lots = trials.every_lot(5)
        ties = [(place, end, GREAT) for place in (1, 2) for end in (0, 8)] + [(0, place, 1) for place in range(3, 8)]
        task = Task(Table(5, lots), Web(9, ties), parts_of(5, [()] + [None] * 7 + [(0, 1, 2, 3, 4)]))
        found = best_fillings(task)
        self.assertEqual(found, [((), lot, other) + ((),) * 5 + ((0, 1, 2, 3, 4),) for lot in lots for other in lots])
        self.assertEqual(count_best(task), 1024)
        self.assertTrue(all([is_best(task, filling) for filling in found[::10]]))

    def test_a_staircase(self):
        """Each thing begins at a place of the row where the thing ahead of it is, too."""
        table = Table(5, [tuple(range(size)) for size in range(6)])
        web = Web(9, [(place, place + 1, GREAT) for place in range(8)])
        task = Task(table, web, parts_of(5, [()] + [None] * 7 + [(0, 1, 2, 3, 4)]))
        found = best_fillings(task)
        self.assertEqual((len(found), count_best(task)), (792, 792))
        self.assertEqual(least_total(task), 5 * GREAT)
        for filling in found[::7]:
            self.assertEqual([len(lot) for lot in filling], sorted(len(lot) for lot in filling))

    def test_twelve_wishes(self):
        web = Web(9, [(low, high, GREAT - low - high) for low, high in combinations(range(9), 2)])
        table = Table(6, trials.every_lot(6))
        task = Task(table, web, parts_of(6, [(), (0, 2), (1, 2, 3, 4, 5)] + [None] * 6))
        best = best_toward(task, ())
        met = [(place, (thing, "in" if thing in best[place] else "out")) for place in (3, 4) for thing in range(6)]
        self.assertEqual((extra(task, met), barred(task, met), best_with(task, met)), (0, None, best))
        contrary = [(place, (thing, "out" if word == "in" else "in")) for place, (thing, word) in met]
        self.assertEqual(barred(task, contrary), (min(contrary),))
        self.assertIsNone(best_with(task, contrary))
        self.assertGreater(extra(task, contrary), GREAT)


if __name__ == "__main__":
    unittest.main()
