"""Point 19 and fact F11: how the total depends on the weight of a tie."""

import time
import unittest
from itertools import combinations, permutations

from tests import trials, web_trials
from tests.web_trials import AT_MOST_ONE, EXAMPLE_PARTS, EXAMPLE_WEB, GREAT
from thingwise.best import best_fillings
from thingwise.errors import InvalidFilling, InvalidPlace, InvalidTask, InvalidWeight, NotBest
from thingwise.tables import Table
from thingwise.tasks import Task, best_toward, cost, least_total, parts_of
from thingwise.ties import bends, best_range, crossings, tie_numbers, total_at
from thingwise.webs import Web, weight_of, with_tie

HUGE = 10 ** 39
EXAMPLE = Task(AT_MOST_ONE, EXAMPLE_WEB, EXAMPLE_PARTS)
BEST = ((0,), (1,), (1,))
FUNCTIONS = (tie_numbers, bends, total_at, crossings, best_range)


def tasks_and_ends(count):
    """(table, web, parts, ends) with all pairs of places, in both orders now and then."""
    chosen = [*web_trials.chosen_tasks(count, 200), *web_trials.open_tasks(14, 200)]
    for number, (table, web, parts) in enumerate(chosen):
        for ends in combinations(range(web.places), 2):
            yield table, web, parts, ends[::-1] if number % 2 else ends


def weights_to_try(numbers):
    """Weights up to beyond the last bend, with each bend and what is beside it."""
    found = {0, 1, 2}
    for alike, apart in numbers:
        if alike is not None:
            found.update(range(max(0, alike - apart - 1), alike - apart + 2))
    return sorted(found)


def tried_numbers(table, web, parts, ends):
    closures = web_trials.tried_closures(table, parts)
    return [web_trials.tried_tie_numbers(web, *web_trials.tried_between(closures, thing), ends)
            for thing in range(table.things)]


class AgainstTrialsTest(unittest.TestCase):

    def test_numbers_and_bends(self):
        seen = set()
        for table, web, parts, ends in tasks_and_ends(90):
            task = Task(table, web, parts)
            tried = tried_numbers(table, web, parts, ends)
            self.assertEqual(tie_numbers(task, *ends), tried)
            self.assertEqual(bends(task, *ends), sorted(alike - apart for alike, apart in tried if alike is not None))
            seen.update([None if alike is None else min(alike - apart, 2) for alike, apart in tried])
        self.assertEqual(seen, {None, 0, 1, 2})

    def test_totals_and_crossings(self):
        ranges = set()
        for table, web, parts, ends in tasks_and_ends(45):
            task = Task(table, web, parts)
            for weight in weights_to_try(tried_numbers(table, web, parts, ends)):
                total, best = web_trials.tried_best(table, web_trials.with_weight(web, *ends, weight), parts)
                self.assertEqual(total_at(task, *ends, weight), total)
                if weight > 0:
                    apart = [web_trials.things_at_one_end(filling, *ends) for filling in best]
                    self.assertEqual(crossings(task, *ends, weight), (min(apart), max(apart)))
                    ranges.add((min(apart), max(apart)))
        self.assertGreater(len(ranges), 8)

    def test_ranges(self):
        seen = set()
        for table, web, parts, ends in tasks_and_ends(45):
            task = Task(table, web, parts)
            weights = weights_to_try(tried_numbers(table, web, parts, ends))
            best_at = {weight: web_trials.tried_best(table, web_trials.with_weight(web, *ends, weight), parts)[1]
                       for weight in weights}
            # Of many best fillings some are enough, for each number of things apart.
            chosen = {}
            for filling in web_trials.tried_best(table, web, parts)[1]:
                chosen.setdefault(web_trials.things_at_one_end(filling, *ends), []).append(filling)
            for filling in [filling for some in chosen.values() for filling in some[:2]]:
                least, greatest = best_range(task, *ends, filling)
                in_range = [weight for weight in weights
                            if least <= weight and (greatest is None or weight <= greatest)]
                self.assertEqual(in_range, [weight for weight in weights if filling in best_at[weight]])
                self.assertTrue(least in weights and (greatest is None or greatest in weights))
                seen.add((min(least, 1), greatest if greatest is None else min(greatest, 1)))
        self.assertEqual(seen, {(0, 0), (0, 1), (0, None), (1, 1), (1, None)})

    def test_as_with_the_tie_itself(self):
        for table, web, parts, ends in tasks_and_ends(30):
            task = Task(table, web, parts)
            for weight in (0, 1, 2, 7, GREAT):
                other = Task(table, with_tie(web, *ends, weight), parts)
                self.assertEqual(total_at(task, *ends, weight), least_total(other))
                self.assertEqual(tie_numbers(other, *ends), tie_numbers(task, *ends))
                if weight > 0:
                    self.assertEqual(crossings(task, *ends, weight), crossings(other, *ends, weight))

    def test_both_orders_are_alike(self):
        for table, web, parts in web_trials.chosen_tasks(15, 100):
            task = Task(table, web, parts)
            filling = best_toward(task, table.lots[0])
            for low, high in combinations(range(web.places), 2):
                self.assertEqual(tie_numbers(task, low, high), tie_numbers(task, high, low))
                self.assertEqual(best_range(task, low, high, filling), best_range(task, high, low, filling))


class ExamplesTest(unittest.TestCase):

    def test_the_example(self):
        self.assertEqual(tie_numbers(EXAMPLE, 1, 2), [(2, 0), (2, 0)])
        self.assertEqual(bends(other_place=1, task=EXAMPLE, place=2), [2, 2])
        self.assertEqual(best_range(EXAMPLE, 1, 2, BEST), (2, None))
        self.assertEqual(best_range(filling=BEST, other_place=1, place=0, task=EXAMPLE), (0, 3))
        self.assertEqual([total_at(EXAMPLE, 1, 2, weight) for weight in (0, 1, 2, 3, GREAT)], [0, 2, 4, 4, 4])
        self.assertEqual([crossings(EXAMPLE, 1, 2, weight) for weight in (1, 2, 3)], [(2, 2), (0, 2), (0, 0)])

    def test_places_without_a_tie(self):
        # Both ends are known to be unlike: no weight brings them together.
        self.assertEqual(tie_numbers(EXAMPLE, 0, 2), [(None, 2), (None, 2)])
        self.assertEqual(bends(EXAMPLE, 0, 2), [])
        self.assertEqual(total_at(weight=5, task=EXAMPLE, place=0, other_place=2), 14)
        self.assertEqual(crossings(weight=GREAT, other_place=2, place=0, task=EXAMPLE), (2, 2))
        self.assertEqual(best_range(EXAMPLE, 0, 2, BEST), (0, None))

    def test_without_ties_nothing_is_ever_apart_beyond_0(self):
        task = Task(AT_MOST_ONE, Web(2, []), ((), ()))
        self.assertEqual((tie_numbers(task, 0, 1), bends(task, 0, 1)), ([(0, 0), (0, 0)], [0, 0]))
        self.assertEqual((total_at(task, 0, 1, 9), crossings(task, 0, 1, 1)), (0, (0, 0)))
        self.assertEqual(best_range(task, 0, 1, ((), ())), (0, None))
        self.assertEqual(best_range(task, 0, 1, ((0,), (0,))), (0, None))
        self.assertEqual(best_range(task, 0, 1, ((), (0,))), (0, 0))
        self.assertEqual(best_range(task, 0, 1, ((1,), (0,))), (0, 0))

    def test_some_things_without_alike(self):
        table = Table(2, trials.every_lot(2))
        web = Web(3, [(0, 1, 4), (1, 2, 9)])
        task = Task(table, web, (((0, "in"), (1, "in")), ((0, "out"),), ((1, "out"),)))
        self.assertEqual(tie_numbers(task, 1, 0), [(None, 0), (9, 0)])
        self.assertEqual(bends(task, 0, 1), [9])
        self.assertEqual([crossings(task, 0, 1, weight) for weight in (1, 8, 9, 10)], [(2, 2), (2, 2), (1, 2), (1, 1)])
        self.assertEqual([total_at(task, 0, 1, weight) for weight in (0, 9, 10)], [0, 18, 19])
        self.assertEqual(best_range(task, 0, 1, ((0, 1), (), ())), (0, 9))

    def test_one_bend_ahead_of_another(self):
        task = Task(Table(2, trials.every_lot(2)), Web(4, [(0, 1, 5), (1, 3, 3), (0, 2, 7)]),
                    (((0, "in"), (1, "in")), (), ((0, "out"),), ((0, "out"), (1, "out"))))
        at_one_end = {filling: web_trials.things_at_one_end(filling, 0, 1) for filling in best_fillings(task)}
        self.assertEqual(bends(task, 0, 1), [3, 3])
        self.assertEqual({best_range(task, 0, 1, filling) for filling in at_one_end}, {(3, None)})
        self.assertEqual(bends(task, 1, 3), [5, 5])
        self.assertEqual({best_range(task, 1, 3, filling) for filling in at_one_end}, {(0, 5)})

    def test_results_are_new(self):
        for function in (tie_numbers, bends):
            first = list(function(EXAMPLE, 1, 2))
            function(EXAMPLE, 1, 2).append("x")
            self.assertEqual(function(EXAMPLE, 1, 2), first)


class WrongArgumentsTest(unittest.TestCase):

    def rest(self, function, value):
        return [] if function in (tie_numbers, bends) else [value]

    def test_task_and_places(self):
        for wrong in (None, True, 0, "", (), [], AT_MOST_ONE, EXAMPLE_WEB, Task):
            for function in FUNCTIONS:
                self.assertRaises(InvalidTask, function, wrong, wrong, wrong, *self.rest(function, wrong))
        for wrong in (None, True, False, -1, 3, HUGE, "", "0", (), (0,), [0], EXAMPLE):
            for function in FUNCTIONS:
                self.assertRaises(InvalidPlace, function, EXAMPLE, wrong, 1, *self.rest(function, None))
                self.assertRaises(InvalidPlace, function, EXAMPLE, 0, wrong, *self.rest(function, None))
                self.assertRaises(InvalidPlace, function, EXAMPLE, 1, 1, *self.rest(function, None))

    def test_weight(self):
        for wrong in (None, True, False, -1, -HUGE, "", "1", (), [], [1], (1,), EXAMPLE):
            for function in (total_at, crossings):
                self.assertRaises(InvalidWeight, function, EXAMPLE, 0, 1, wrong)
        self.assertRaises(InvalidWeight, crossings, EXAMPLE, 0, 1, 0)
        self.assertRaises(InvalidPlace, crossings, EXAMPLE, 0, 0, 0)
        self.assertEqual(total_at(EXAMPLE, 0, 1, 0), 0)

    def test_filling(self):
        for wrong in (None, True, 0, "", (), [], list(BEST), BEST[:2], BEST + ((),), ((0,), (1,), [1]), ((0,), (1,), 1),
                      ((0,), (True,), (1,)), ((0,), (1, 0), (1,)), ((0,), (-1,), (1,)), ((0,), None, (1,)), EXAMPLE):
            self.assertRaises(InvalidFilling, best_range, EXAMPLE, 0, 1, wrong)
        # Lots that the table does not have, lots against the parts, and a filling that costs too much.
        for other in (((0,), (0, 1), (1,)), ((0,), (HUGE,), (1,)), ((1,), (1,), (1,)), ((0,), (), (1,)), ((0,), (0,), (1,)),
                      ((), (), ())):
            self.assertRaises(NotBest, best_range, EXAMPLE, 0, 1, other)
            self.assertRaises(InvalidPlace, best_range, EXAMPLE, 0, 3, other)

    def test_one_place(self):
        task = Task(AT_MOST_ONE, Web(1, []), ((),))
        for function in FUNCTIONS:
            for other_place in (0, 1):
                self.assertRaises(InvalidPlace, function, task, 0, other_place, *self.rest(function, 1))


class LargestTest(unittest.TestCase):

    def test_the_largest(self):
        started = time.perf_counter()
        web = Web(9, [(low, high, GREAT - low * high) for low, high in combinations(range(9), 2)])
        task = Task(Table(6, trials.every_lot(6)), web, parts_of(6, [(), (0, 2), (1, 2, 3, 4, 5)] + [None] * 6))
        filling = best_toward(task, ())
        for ends in list(permutations(range(9), 2))[::3]:
            total, weight = least_total(task), weight_of(web, *ends)
            self.assertEqual(total_at(task, *ends, weight), total)
            low, high = best_range(task, *ends, filling)
            self.assertTrue(low <= weight and (high is None or weight <= high))
            for other in (low, high if high is not None else HUGE // 10 ** 28):
                self.assertEqual(total_at(task, *ends, other), cost(with_tie(web, *ends, other), filling))
        self.assertLess(time.perf_counter() - started, 20)

    def test_any_number_of_best_fillings(self):
        started = time.perf_counter()
        table = Table(6, trials.every_lot(6))
        task = Task(table, Web(9, []), ((),) * 9)
        self.assertEqual(best_range(task, 3, 5, ((),) * 9), (0, None))
        self.assertEqual(best_range(task, 3, 5, ((),) * 3 + ((0, 1, 2, 3, 4, 5),) + ((),) * 5), (0, 0))
        self.assertLess(time.perf_counter() - started, 10)


if __name__ == "__main__":
    unittest.main()
