"""Point 20 and fact F12: messages in forests."""

import time
import unittest
from itertools import product

from tests import trials, web_trials
from tests.web_trials import AT_MOST_ONE, EXAMPLE_PARTS, EXAMPLE_WEB, GREAT
from thingwise.errors import InvalidPlace, InvalidTask, InvalidThing, NotAForest
from thingwise.forests import forest_total, margin, messages
from thingwise.prices import thing_price
from thingwise.tables import Table
from thingwise.tasks import Task, least_total, parts_of
from thingwise.webs import Web, is_forest, pieces

HUGE = 10 ** 39
EXAMPLE = Task(AT_MOST_ONE, EXAMPLE_WEB, EXAMPLE_PARTS)
RING = Task(AT_MOST_ONE, Web(4, [(0, 1, 1), (1, 2, 1), (0, 2, 1)]), ((),) * 4)


class AgainstTrialsTest(unittest.TestCase):

    def test_messages(self):
        count = 0
        for table, web, parts in web_trials.chosen_forest_tasks(60, 7):
            task = Task(table, web, parts)
            for thing in range(table.things):
                must, never = web_trials.tried_between(task.parts, thing)
                found = messages(task, thing)
                ways = sorted([tie[:2] for tie in web.ties] + [tie[1::-1] for tie in web.ties])
                tried = [way + (web_trials.tried_message(web, must, never, *way),) for way in ways]
                self.assertEqual(found, tried)
                self.assertTrue(all([type(row) is tuple for row in found]))
                count += len(found)
        self.assertGreater(count, 500)

    def test_margins(self):
        seen = set()
        for table, web, parts in web_trials.chosen_forest_tasks(60, 8):
            task = Task(table, web, parts)
            for place, thing in product(range(web.places), range(table.things)):
                must, never = web_trials.tried_between(task.parts, thing)
                found = margin(task, place, thing)
                if place in must + never:
                    self.assertIsNone(found)
                else:
                    with_it = web_trials.tried_least_sides(web, must + (place,), never)[0]
                    without_it = web_trials.tried_least_sides(web, must, never + (place,))[0]
                    self.assertEqual(found, without_it - with_it)
                seen.add(None if found is None else max(-1, min(found, 1)))
        self.assertEqual(seen, {None, -1, 0, 1})

    def test_totals(self):
        for table, web, parts in web_trials.chosen_forest_tasks(120, 9):
            task = Task(table, web, parts)
            between = [web_trials.tried_between(task.parts, thing) for thing in range(table.things)]
            tried = sum(web_trials.tried_least_sides(web, must, never)[0] for must, never in between)
            self.assertEqual(forest_total(task), tried)
            self.assertEqual(least_total(task), tried)
            if web_trials.count_fillings(table, parts) < 300:
                self.assertEqual(web_trials.tried_best(table, web, parts)[0], tried)

    def test_all_small_forests(self):
        for web in web_trials.all_small_webs():
            for words in product(((), ((0, "in"),), ((0, "out"),)), repeat=web.places):
                task = Task(Table(1, [(), (0,)]), web, words)
                if is_forest(web):
                    self.assertEqual(forest_total(task), least_total(task))
                    self.assertEqual(len(messages(task, 0)), 2 * len(web))
                else:
                    self.assertRaises(NotAForest, forest_total, task)


class ExamplesTest(unittest.TestCase):

    def test_the_example(self):
        self.assertEqual(messages(EXAMPLE, 0), [(0, 1, 2), (1, 0, -2), (1, 2, 2), (2, 1, -3)])
        self.assertEqual(messages(thing=1, task=EXAMPLE), [(0, 1, -2), (1, 0, 2), (1, 2, -2), (2, 1, 3)])
        self.assertEqual((margin(EXAMPLE, 1, 0), margin(thing=1, task=EXAMPLE, place=1)), (-1, 1))
        self.assertEqual(forest_total(task=EXAMPLE), 4)
        for place, thing in product((0, 2), (0, 1)):
            self.assertIsNone(margin(EXAMPLE, place, thing))

    def test_no_ties(self):
        for places in (1, 3):
            task = Task(AT_MOST_ONE, Web(places, []), (((0, "in"),),) + ((),) * (places - 1))
            self.assertEqual((messages(task, 0), messages(task, 1), forest_total(task)), ([], [], 0))
            self.assertIsNone(margin(task, 0, 1))
            self.assertEqual([margin(task, place, 0) for place in range(1, places)], [0] * (places - 1))

    def test_what_only_the_closure_tells(self):
        task = Task(AT_MOST_ONE, EXAMPLE_WEB, (((0, "in"),), (), ((1, "in"),)))
        self.assertEqual(messages(task, 1), messages(EXAMPLE, 1))
        self.assertIsNone(margin(task, 0, 1))

    def test_messages_that_a_tie_holds_back(self):
        web = Web(5, [(0, 3, 10 ** 11), (1, 3, GREAT), (2, 3, 7), (3, 4, GREAT)])
        task = Task(Table(1, [(), (0,)]), web, parts_of(1, [(0,), (0,), (), None, None]))
        self.assertEqual(messages(task, 0), [
            (0, 3, 10 ** 11), (1, 3, GREAT), (2, 3, -7), (3, 0, 10 ** 11), (3, 1, 10 ** 11 - 7), (3, 2, 7),
            (3, 4, GREAT), (4, 3, 0)])
        self.assertEqual((margin(task, 3, 0), margin(task, 4, 0)), (10 ** 11 + GREAT - 7, GREAT))
        self.assertEqual(forest_total(task), 7)

    def test_several_pieces(self):
        web = Web(6, [(0, 4, 3), (1, 3, 2), (3, 5, 2)])
        task = Task(AT_MOST_ONE, web, parts_of(2, [(0,), (1,), (0,), None, (), (0,)]))
        self.assertEqual(len(pieces(web)), 3)
        self.assertEqual(forest_total(task), least_total(task))
        self.assertEqual(forest_total(task), 3 + 2 + 2)
        self.assertEqual([margin(task, 3, thing) for thing in (0, 1)], [0, 0])

    def test_thing_prices(self):
        for table, web, parts in web_trials.chosen_forest_tasks(40, 9):
            task = Task(table, web, parts)
            for place, thing in product(range(web.places), range(table.things)):
                found = margin(task, place, thing)
                if found is not None:
                    self.assertEqual(thing_price(task, place, (thing, "in")), max(0, -found))
                    self.assertEqual(thing_price(task, place, (thing, "out")), max(0, found))

    def test_results_are_new(self):
        first = messages(EXAMPLE, 0)
        messages(EXAMPLE, 0).append("x")
        self.assertEqual(messages(EXAMPLE, 0), first)


class WrongArgumentsTest(unittest.TestCase):

    def test_no_forest(self):
        self.assertRaises(NotAForest, messages, RING, 0)
        self.assertRaises(NotAForest, margin, RING, 3, 1)
        self.assertRaises(NotAForest, forest_total, RING)
        known = Task(AT_MOST_ONE, RING.web, (((0, "in"),), (), (), ()))
        self.assertRaises(NotAForest, margin, known, 0, 0)

    def test_the_first_wrong_one(self):
        for wrong in (None, True, 0, "", (), [], AT_MOST_ONE, EXAMPLE_WEB, Task):
            self.assertRaises(InvalidTask, messages, wrong, wrong)
            self.assertRaises(InvalidTask, margin, wrong, wrong, wrong)
            self.assertRaises(InvalidTask, forest_total, wrong)
        for wrong in (None, True, False, -1, 4, HUGE, "", "0", (), (0,), [0], EXAMPLE):
            for task in (RING, Task(AT_MOST_ONE, Web(4, []), ((),) * 4)):
                self.assertRaises(InvalidPlace, margin, task, wrong, wrong)
        for wrong in (None, True, False, -1, 2, HUGE, "", "0", (), (0,), [0], (0, "in"), EXAMPLE):
            for task in (RING, EXAMPLE):
                self.assertRaises(InvalidThing, messages, task, wrong)
                self.assertRaises(InvalidThing, margin, task, 0, wrong)


class LargestTest(unittest.TestCase):

    def test_the_largest(self):
        started = time.perf_counter()
        table = Table(6, trials.every_lot(6))
        for ties in ([(place, place + 1, GREAT - place) for place in range(8)],
                     [(4, place, GREAT) for place in range(9) if place != 4], [(place // 2, place, GREAT - 1) for place in range(1, 9)]):
            web = Web(9, ties)
            task = Task(table, web, parts_of(6, [()] + [None] * 6 + [(0, 1, 2), (2, 3, 4, 5)]))
            self.assertEqual(forest_total(task), least_total(task))
            for thing in range(6):
                self.assertEqual(len(messages(task, thing)), 16)
                margin(task, 3, thing)
        self.assertLess(time.perf_counter() - started, 10)


if __name__ == "__main__":
    unittest.main()
