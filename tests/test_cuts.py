"""Points 7 and 15: least cuts, least sides and flows."""

import time
import unittest
from itertools import combinations, permutations, product

from tests import web_trials
from tests.web_trials import EXAMPLE_WEB, GREAT
from thingwise.cuts import brings, flow, flow_worth, least_cut, least_sides
from thingwise.errors import InvalidSide, InvalidWeb, NoLot
from thingwise.tables import Table
from thingwise.webs import Web, cut_of

HUGE = 10 ** 39
FUNCTIONS = (least_cut, least_sides, brings, flow)


def all_of_kinds(value):
    """Whether nothing but lists, tuples and integers is in a value."""
    if type(value) in (list, tuple):
        return all(all_of_kinds(item) for item in value)
    return type(value) is int


class LeastCutTest(unittest.TestCase):

    def test_least_cut(self):
        for web, must, never in web_trials.webs_and_betweens():
            least, sides = web_trials.tried_least_sides(web, must, never)
            found = least_cut(web, must, never)
            self.assertEqual((type(found), len(found)), (tuple, 3))
            in_all = tuple(place for place in range(web.places) if all(place in side for side in sides))
            in_some = tuple(place for place in range(web.places) if any(place in side for side in sides))
            self.assertEqual(found, (least, in_all, in_some))
            self.assertTrue(all_of_kinds(found))

    def test_least_sides(self):
        for web, must, never in web_trials.webs_and_betweens():
            found = least_sides(web, must, never)
            self.assertIs(type(found), list)
            self.assertTrue(all_of_kinds(found))
            self.assertEqual(found, web_trials.tried_least_sides(web, must, never)[1])

    def test_brings(self):
        count = 0
        for web, must, never in web_trials.webs_and_betweens():
            _, sides = web_trials.tried_least_sides(web, must, never)
            between = [place for place in range(web.places) if len({place in side for side in sides}) == 2]
            tried = [(place, other) for place, other in permutations(between, 2)
                     if all(other in side for side in sides if place in side)]
            self.assertEqual(brings(web, must, never), tried)
            count += len(tried)
        self.assertGreater(count, 200)

    def test_a_web_by_hand(self):
        # A row of three ties of 2 has three places to be cut; what is left of the cut brings what is ahead of it.
        web = Web(5, [(0, 1, 2), (1, 2, 2), (2, 3, 2), (3, 4, 5)])
        self.assertEqual(least_cut(web, (0,), (4,)), (2, (0,), (0, 1, 2)))
        self.assertEqual(least_sides(web, (0,), (4,)), [(0,), (0, 1), (0, 1, 2)])
        self.assertEqual(brings(web, (0,), (4,)), [(2, 1)])
        self.assertEqual(least_cut(never=(0,), must=(4,), web=web), (2, (3, 4), (1, 2, 3, 4)))
        self.assertEqual(brings(never=(0,), must=(4,), web=web), [(1, 2)])
        self.assertEqual(least_sides(never=(0,), must=(4,), web=web), [(1, 2, 3, 4), (2, 3, 4), (3, 4)])

    def test_without_must_and_without_never(self):
        web = Web(5, [(0, 1, 2), (1, 2, GREAT)])
        self.assertEqual(least_cut(web, (), ()), (0, (), (0, 1, 2, 3, 4)))
        self.assertEqual(least_cut(web, (), (1,)), (0, (), (3, 4)))
        self.assertEqual(least_cut(web, (1,), ()), (0, (0, 1, 2), (0, 1, 2, 3, 4)))
        self.assertEqual(least_cut(web, (), (0, 1, 2, 3, 4)), (0, (), ()))
        self.assertEqual(least_cut(web, (0, 1, 2, 3, 4), ()), (0, (0, 1, 2, 3, 4), (0, 1, 2, 3, 4)))
        self.assertEqual(least_sides(web, (), ()), sorted(
            [piece + more for piece in ((), (0, 1, 2)) for more in ((), (3,), (4,), (3, 4))]))
        self.assertEqual(brings(web, (), ()), [(p, q) for p, q in permutations(range(3), 2)])

    def test_no_place_left_free(self):
        web = Web(4, [(0, 1, 2), (1, 2, 3), (0, 3, 10), (2, 3, 1)])
        for side in web_trials.every_side(4):
            never = tuple(place for place in range(4) if place not in side)
            self.assertEqual(least_cut(web, side, never), (cut_of(web, side), side, side))
            self.assertEqual(least_sides(web, side, never), [side])
            self.assertEqual(brings(web, side, never), [])
            self.assertEqual(flow_worth(web, side, never, flow(web, side, never)), cut_of(web, side))

    def test_one_place(self):
        for must, never in (((), ()), ((0,), ()), ((), (0,))):
            sides = [side for side in ((), (0,)) if set(must) <= set(side) and not set(side) & set(never)]
            self.assertEqual(least_cut(Web(1, []), must, never), (0, sides[0], sides[-1]))
            self.assertEqual(least_sides(Web(1, []), must, never), sides)
            self.assertEqual(flow(Web(1, []), must, never), [])

    def test_no_ties(self):
        web = Web(9, [])
        self.assertEqual(least_cut(web, (2, 3), (0, 8)), (0, (2, 3), (1, 2, 3, 4, 5, 6, 7)))
        self.assertEqual(len(least_sides(web, (), ())), 512)
        self.assertEqual(least_sides(web, (), ()), web_trials.every_side(9))
        self.assertEqual((brings(web, (), ()), flow(web, (2, 3), (0, 8))), ([], []))

    def test_results_are_new(self):
        for function in FUNCTIONS[1:]:
            first = list(function(EXAMPLE_WEB, (0,), (2,)))
            function(EXAMPLE_WEB, (0,), (2,)).append("x")
            self.assertEqual(function(EXAMPLE_WEB, (0,), (2,)), first)


class FlowTest(unittest.TestCase):

    def test_flow(self):
        for web, must, never in web_trials.webs_and_betweens():
            found = flow(web, must, never)
            self.assertIs(type(found), list)
            self.assertTrue(all(type(row) is tuple and len(row) == 3 for row in found))
            self.assertTrue(all_of_kinds(found))
            least = web_trials.tried_least_sides(web, must, never)[0]
            self.assertEqual(web_trials.tried_worth(web, must, never, found), least)
            self.assertEqual(flow_worth(web, must, never, found), least)
            self.assertEqual(flow(Web(web.places, web.ties[::-1]), must, never), found)

    def test_all_rows_of_small_webs(self):
        """Each way to have up to one amount more than the weight on each tie, both ways."""
        for web in (Web(3, [(0, 1, 2), (0, 2, 1), (1, 2, 1)]), Web(4, [(0, 1, 1), (1, 2, 1), (2, 3, 1), (0, 3, 1)])):
            choices = [[()] + [(ends + (amount,),) for amount in range(1, tie[2] + 2)
                               for ends in (tie[:2], tie[1::-1])] for tie in web.ties]
            values = [sorted(sum(rows, ())) for rows in product(*choices)]
            for must, never in web_trials.all_betweens(web.places):
                least = web_trials.tried_least_sides(web, must, never)[0]
                for value in values:
                    worth = web_trials.tried_worth(web, must, never, value)
                    self.assertEqual(flow_worth(web, must, never, value), worth)
                    self.assertTrue(worth is None or worth <= least or not never)

    def test_worths_by_hand(self):
        web = Web(4, [(0, 1, 2), (1, 2, 3), (0, 2, 5), (2, 3, 4)])
        for value, worth in (
                ([], 0), ([(0, 1, 2), (1, 2, 2)], 2), ([(0, 1, 1), (1, 2, 1)], 1), ([(0, 2, 5)], 5),
                ([(0, 1, 3), (1, 2, 3)], None), ([(0, 1, 2), (1, 2, 1)], None), ([(0, 1, 2)], None),
                ([(1, 2, 2), (0, 1, 2)], None), ([(2, 0, 5)], -5), ([(0, 1, 1), (1, 2, 1), (2, 0, 1)], 0),
                ([(0, 2, 2), (0, 2, 3)], None), ([(0, 2, 2), (2, 0, 2)], None), ([(0, 2, 6)], None), ([(0, 2, 0)], None),
                ([(0, 2, -1)], None), ([(2, 3, 1)], None), ([(0, 3, 1)], None), ([(1, 3, 1)], None)):
            self.assertEqual(flow_worth(web, (0,), (2,), value), worth)
        self.assertEqual(flow_worth(value=[(0, 2, 4), (2, 3, 4)], never=(3,), must=(0,), web=web), 4)
        self.assertEqual(flow_worth(web, (0, 1), (3,), [(0, 1, 2), (0, 2, 1), (1, 2, 2), (2, 3, 3)]), 3)
        self.assertEqual(flow_worth(web, (), (3,), [(2, 3, 1)]), None)
        self.assertEqual(flow_worth(web, (), (2, 3), [(2, 3, 1)]), 0)
        self.assertEqual(flow_worth(web, (2, 3), (), [(2, 3, 1)]), 0)

    def test_a_tie_in_one_tuple_alone(self):
        web = Web(2, [(0, 1, 5)])
        self.assertEqual(flow_worth(web, (0,), (1,), [(0, 1, 3)]), 3)
        for value in ([(0, 1, 1), (0, 1, 2)], [(0, 1, 1), (1, 0, 1)], [(0, 1, 2), (1, 0, 1)], [(0, 1, 1), (0, 1, 1)]):
            self.assertIsNone(flow_worth(web, (0,), (1,), value))

    def test_any_value(self):
        web = Web(3, [(0, 1, 2), (1, 2, 2)])
        right = [(0, 1, 1), (1, 2, 1)]
        self.assertEqual(flow_worth(web, (0,), (2,), right), 1)
        for value in (None, True, False, 0, 1, HUGE, "", "0-1:1", (), tuple(right), [None], [()], [[]], [0], [True], [""],
                      ["abc"], [list(row) for row in right], right + [None], right + [()], right + [(2,)], [(0, 1)],
                      right[::-1], [(0, 1, 1, 1), (1, 2, 1, 1)], [(False, 1, 1), (1, 2, 1)], [(0, True, 1), (1, 2, 1)],
                      [(0, 1, True), (1, 2, 1)], [(0, 1, 1), (True, 2, 1)], [(0, 1, 1), (1, 2, True)],
                      [(0, 1, None), (1, 2, None)], [("0", "1", 1)], [(0, 1, "1")], [(None, 1, 1)], [((0,), (1,), 1)],
                      [([], [], [])], [(0, 1, HUGE)], [(0, HUGE, 1)], [(-1, 0, 1)], [(0, 1, -1)], [(0, 0, 1)],
                      [(0, 3, 1)], [(2, 3, 1)], web, [web], [(web, web, web)], NoLot("x"), [NoLot("x")], Table(1, [()]),
                      [[[[[[[[[["in"]]]]]]]]]], Web, [(0, 1, Web)]):
            self.assertIs(flow_worth(web, (0,), (2,), value), None, value)

    def test_the_value_stays(self):
        value = [(0, 1, 1), (1, 2, 1)]
        flow_worth(EXAMPLE_WEB, (0,), (2,), value)
        self.assertEqual(value, [(0, 1, 1), (1, 2, 1)])


class WrongSidesTest(unittest.TestCase):

    def functions(self):
        return FUNCTIONS + (lambda web, must, never: flow_worth(web, must, never, []),)

    def test_first_wrong_one(self):
        web, wrong_sides = Web(3, [(0, 1, 2)]), (None, 0, "", [], [0], (1, 0), (1, 1), (3,), (-1,), (True,), ((0,),))
        for function in self.functions():
            for wrong in wrong_sides:
                self.assertRaises(InvalidSide, function, web, wrong, ())
                self.assertRaises(InvalidSide, function, web, (), wrong)
                self.assertRaises(InvalidWeb, function, wrong, wrong, wrong)
            for must, never in (((0,), (0,)), ((0, 1, 2), (2,)), ((1,), (0, 1)), ((0, 2), (0, 1, 2))):
                self.assertRaises(InvalidSide, function, web, must, never)


class LargestTest(unittest.TestCase):
    """The limit is far above what is needed, so that a slow machine does not fail."""

    def test_nine_places(self):
        started = time.perf_counter()
        web = Web(9, [(low, high, GREAT - low * 10 ** 6 - high) for low, high in combinations(range(9), 2)])
        for must, never in (((0,), (8,)), ((0, 1, 2), (6, 7, 8)), ((), (3,)), ((4,), ())):
            least, sides = web_trials.tried_least_sides(web, must, never)
            self.assertEqual(least_cut(web, must, never), (least, sides[0], sides[-1]))
            self.assertEqual(least_sides(web, must, never), sides)
            self.assertEqual(flow_worth(web, must, never, flow(web, must, never)), least)
        self.assertLess(time.perf_counter() - started, 10)

    def test_sums_of_more_than_twelve_digits(self):
        web = Web(9, [(0, place, GREAT) for place in range(1, 8)] + [(place, 8, GREAT) for place in range(1, 8)])
        self.assertEqual(least_cut(web, (0,), (8,)), (7 * GREAT, (0,), tuple(range(8))))
        self.assertEqual(len(least_sides(web, (0,), (8,))), 128)
        self.assertEqual(flow_worth(web, (0,), (8,), flow(web, (0,), (8,))), 7 * GREAT)


if __name__ == "__main__":
    unittest.main()
