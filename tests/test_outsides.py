"""Point 21 and fact F13: outlines, and webs that stand for others."""

import time
import unittest
from itertools import combinations, product

from tests import web_trials
from tests.web_trials import EXAMPLE_WEB, GREAT
from thingwise.cuts import least_cut
from thingwise.errors import InvalidPlace, InvalidSide, InvalidWeb, TooManyTies
from thingwise.outsides import outline, parted_outside, shrunk, star_of, take_out
from thingwise.webs import Web, glued

HUGE = 10 ** 39
RING = Web(4, [(0, 1, 1), (1, 2, 2), (2, 3, 3), (0, 3, 4)])
CROSS = Web(5, [(0, 4, 3), (1, 4, 5), (2, 4, 7), (3, 4, 6)])


def tried_outline(web, outer):
    """The outline from all sides of the web."""
    least = {}
    for side in web_trials.every_side(web.places):
        index = sum(1 << k for k, place in enumerate(outer) if place in side)
        cut = web_trials.tried_cut(web, side)
        least[index] = min(least.get(index, cut), cut)
    return [least[index] for index in range(2 ** len(outer))]


def ties_at(web, place):
    """(neighbour, weight) for each tie of the place, ascending."""
    return sorted([(high if low == place else low, weight) for low, high, weight in web.ties if place in (low, high)])


def webs_and_outer(count, most):
    for number, web in enumerate(web_trials.chosen_webs(count, most)):
        sides = [side for side in web_trials.every_side(web.places) if 1 <= len(side) <= 5]
        for outer in sides[number % 5::max(1, len(sides) // 4)]:
            yield web, outer


class OutlineTest(unittest.TestCase):

    def test_all_sides(self):
        for web, outer in webs_and_outer(80, 7):
            found = outline(web, outer)
            self.assertEqual(found, tried_outline(web, outer))
            self.assertIs(type(found), list)
        for web in web_trials.all_small_webs():
            for size in range(1, web.places + 1):
                for outer in combinations(range(web.places), size):
                    self.assertEqual(outline(web, outer), tried_outline(web, outer))

    def test_examples(self):
        self.assertEqual(outline(EXAMPLE_WEB, (0, 2)), [0, 2, 2, 0])
        self.assertEqual(outline(outer=(1,), web=EXAMPLE_WEB), [0, 0])
        self.assertEqual(outline(EXAMPLE_WEB, (0, 1, 2)), [0, 2, 5, 3, 3, 5, 2, 0])
        self.assertEqual(outline(Web(1, []), (0,)), [0, 0])
        self.assertEqual(outline(Web(3, []), (0, 1, 2)), [0] * 8)

    def test_results_are_new(self):
        outline(EXAMPLE_WEB, (0, 2)).append("x")
        self.assertEqual(outline(EXAMPLE_WEB, (0, 2)), [0, 2, 2, 0])


class PartedOutsideTest(unittest.TestCase):

    def test_first_difference(self):
        seen = set()
        chosen = [(web, outer) for web, outer in webs_and_outer(60, 6) if len(outer) == 3]
        chosen += [(web, (0, 1, 2)) for web in web_trials.all_small_webs() if web.places == 4][::3]
        for (web, outer), (other_web, other_outer) in zip(chosen, chosen[1:]):
            pairs = list(zip(tried_outline(web, outer), tried_outline(other_web, other_outer)))
            unlike = [index for index, (cut, other_cut) in enumerate(pairs) if cut != other_cut]
            tried = tuple(k for k in range(3) if unlike[0] >> k & 1) if unlike else None
            self.assertEqual(parted_outside(web, outer, other_web, other_outer), tried)
            seen.add(tried)
        self.assertEqual(seen, {None, (0,), (1,), (0, 1)})

    def test_a_high_index(self):
        for last in range(1, 6):
            ties = [(place, last + 1, 2) for place in range(last)]
            web, other_web = (Web(last + 2, ties + [(last, last + 1, weight)]) for weight in (2 * last - 1, 2 * last))
            outer = tuple(range(last + 1))
            self.assertEqual(parted_outside(web, outer, other_web, outer), tuple(range(last)))
            self.assertEqual(parted_outside(other_web, outer, web, outer), tuple(range(last)))
            self.assertIsNone(parted_outside(web, outer, web, outer))

    def test_unlike_webs_with_equal_outlines(self):
        row = Web(2, [(0, 1, 2)])
        self.assertIsNone(parted_outside(EXAMPLE_WEB, (0, 2), row, (0, 1)))
        self.assertIsNone(parted_outside(other_outer=(0, 1), outer=(0, 2), other_web=row, web=EXAMPLE_WEB))
        self.assertEqual(parted_outside(EXAMPLE_WEB, (1, 2), row, (0, 1)), (0,))
        self.assertIsNone(parted_outside(EXAMPLE_WEB, (1,), Web(1, []), (0,)))

    def test_unlike_lengths(self):
        for other_outer in ((0,), (0, 1, 2)):
            self.assertRaises(InvalidSide, parted_outside, EXAMPLE_WEB, (0, 2), EXAMPLE_WEB, other_outer)


class StarTest(unittest.TestCase):

    def test_equal_outlines(self):
        for web in [*web_trials.chosen_webs(60, 6), *web_trials.all_small_webs()]:
            for outer in list(combinations(range(web.places), 3))[:4]:
                star, told = star_of(web, outer), tried_outline(web, outer)
                self.assertEqual(star, Web(4, [(0, 3, told[1]), (1, 3, told[2]), (2, 3, told[4])]))
                self.assertEqual(tried_outline(star, (0, 1, 2)), told)
                self.assertIsNone(parted_outside(web, outer, star, (0, 1, 2)))

    def test_examples(self):
        self.assertEqual(star_of(RING, (0, 1, 3)).ties, [(0, 3, 5), (1, 3, 3), (2, 3, 6)])
        self.assertEqual(star_of(outer=(0, 1, 2), web=Web(3, [])), Web(4, []))
        self.assertEqual(star_of(Web(3, [(0, 2, 4)]), (0, 1, 2)).ties, [(0, 3, 4), (2, 3, 4)])

    def test_three_places_alone(self):
        for outer in ((0,), (0, 1), (0, 1, 2, 3)):
            self.assertRaises(InvalidSide, star_of, RING, outer)


class TakeOutTest(unittest.TestCase):

    def check_same_cuts(self, web, place, count):
        found, factor = take_out(web, place)
        self.assertEqual(found.places, web.places - 1)
        kept = [name for name in range(web.places) if name != place]
        for must, never in list(web_trials.all_betweens(found.places))[::count]:
            before = web_trials.tried_least_sides(
                web, tuple(kept[at] for at in must), tuple(kept[at] for at in never))[0]
            self.assertEqual(least_cut(found, must, never)[0], factor * before)

    def test_same_least_cuts(self):
        seen = {}
        for web in web_trials.chosen_webs(60, 6):
            for place in range(web.places):
                near = ties_at(web, place)
                if len(near) > 3:
                    self.assertRaises(TooManyTies, take_out, web, place)
                elif web.places > 1:
                    self.check_same_cuts(web, place, 1 if web.places < 5 else 7)
                    self.assertEqual(take_out(web, place)[1], 2 if len(near) == 3 else 1)
                    joined = len(near) > 1 and near[1][0] in [name for name, _ in ties_at(web, near[0][0])]
                    seen[len(near), joined] = seen.get((len(near), joined), 0) + 1
        self.assertEqual(sorted(seen), [(0, False), (1, False), (2, False), (2, True), (3, False), (3, True)])

    def test_all_small_webs(self):
        for number, web in enumerate(web_trials.all_small_webs()):
            if web.places > 1:
                self.check_same_cuts(web, number % web.places, 1)

    def test_no_tie_one_and_two(self):
        self.assertEqual(take_out(Web(3, [(0, 2, 5)]), 1), (Web(2, [(0, 1, 5)]), 1))
        self.assertEqual(take_out(Web(3, [(0, 2, 5)]), 0), (Web(2, []), 1))
        self.assertEqual(take_out(place=1, web=EXAMPLE_WEB), (Web(2, [(0, 1, 2)]), 1))
        self.assertEqual(take_out(Web(3, [(0, 1, 4), (1, 2, 3), (0, 2, 7)]), 1), (Web(2, [(0, 1, 10)]), 1))
        self.assertEqual(take_out(Web(2, []), 1), (Web(1, []), 1))

    def test_three_ties(self):
        star = Web(5, [(0, 2, 3), (1, 2, 4), (2, 4, 5), (3, 4, 9)])
        self.assertEqual(take_out(star, 2), (Web(4, [(0, 1, 2), (0, 3, 4), (1, 3, 6), (2, 3, 18)]), 2))
        # All weights are doubled, whatever they are; a weight of 0 makes no tie.
        self.assertEqual(take_out(Web(4, [(0, 3, 2), (1, 3, 2), (2, 3, 4)]), 3), (Web(3, [(0, 2, 4), (1, 2, 4)]), 2))
        self.assertEqual(take_out(Web(4, [(0, 3, 2), (1, 3, 2), (2, 3, 9)]), 3), (Web(3, [(0, 2, 4), (1, 2, 4)]), 2))
        there = Web(4, [(0, 3, 1), (1, 3, 1), (2, 3, 1), (0, 1, 3), (1, 2, 4), (0, 2, 5)])
        self.assertEqual(take_out(there, 3), (Web(3, [(0, 1, 7), (1, 2, 9), (0, 2, 11)]), 2))

    def test_too_many_ties(self):
        self.assertRaises(TooManyTies, take_out, CROSS, 4)
        self.assertEqual(take_out(CROSS, 0)[0].places, 4)
        full = Web(6, [(low, high, 1) for low, high in combinations(range(6), 2)])
        for place in range(6):
            self.assertRaises(TooManyTies, take_out, full, place)

    def test_a_web_of_one_place(self):
        self.assertRaises(InvalidPlace, take_out, Web(1, []), 0)
        self.assertRaises(InvalidPlace, take_out, Web(1, []), 1)

    def test_in_a_greater_web(self):
        """The web with its place taken out stands for it: with another web joined at two places, all cuts are alike."""
        joined_on = Web(3, [(0, 1, 3), (1, 2, 2), (0, 2, 1)])
        for web in web_trials.chosen_webs(30, 5):
            if web.places > 2 and len(ties_at(web, web.places - 1)) == 2:
                small, factor = take_out(web, web.places - 1)
                self.assertEqual(factor, 1)
                greater = glued(glued(joined_on + web, 0, 3), 1, 3)
                lesser = glued(glued(joined_on + small, 0, 3), 1, 3)
                places = tuple(range(lesser.places))
                self.assertEqual(outline(greater, places[:5]), outline(lesser, places[:5]))


class ShrunkTest(unittest.TestCase):

    def tried(self, web, outer):
        """The numbers that are left and the factor, place by place."""
        left, factor = list(range(web.places)), 1
        while True:
            rows = [(len(ties_at(web, place)), name, place) for place, name in enumerate(left) if name not in outer]
            if not rows or min(rows)[0] > 3:
                return web, factor, left
            place = min(rows)[2]
            web, more = take_out(web, place)
            factor *= more
            del left[place]

    def test_place_by_place(self):
        factors = set()
        for web, outer in webs_and_outer(100, 8):
            found = shrunk(web, outer)
            self.assertEqual(found, self.tried(web, outer))
            small, factor, left = found
            self.assertEqual(small.places, len(left))
            self.assertTrue(set(outer) <= set(left))
            there = tuple(left.index(place) for place in outer)
            self.assertEqual(outline(small, there), [factor * cut for cut in tried_outline(web, outer)])
            for place, name in enumerate(left):
                self.assertTrue(name in outer or len(ties_at(small, place)) > 3)
            factors.add((factor, len(left) > len(outer)))
        self.assertTrue({(1, False), (2, False), (4, False), (1, True)} <= factors, factors)

    def test_examples(self):
        self.assertEqual(shrunk(EXAMPLE_WEB, (0, 2)), (Web(2, [(0, 1, 2)]), 1, [0, 2]))
        self.assertEqual(shrunk(outer=(1,), web=EXAMPLE_WEB), (Web(1, []), 1, [1]))
        self.assertEqual(shrunk(EXAMPLE_WEB, (0, 1, 2)), (EXAMPLE_WEB, 1, [0, 1, 2]))
        self.assertEqual(shrunk(CROSS, (0, 1, 2, 3)), (CROSS, 1, [0, 1, 2, 3, 4]))
        self.assertEqual(shrunk(CROSS, (0, 2, 3)), (Web(3, [(0, 1, 4), (0, 2, 2), (1, 2, 10)]), 2, [0, 2, 3]))
        self.assertEqual(shrunk(Web(1, []), (0,)), (Web(1, []), 1, [0]))
        self.assertEqual(shrunk(Web(4, []), (2,)), (Web(1, []), 1, [2]))

    def test_the_fewest_ties_first(self):
        # Place 3 has three ties at first; once place 5, with one tie, is gone, two: so no weight is doubled.
        web = Web(6, [(0, 3, 4), (1, 3, 5), (3, 5, 6), (2, 4, 1), (1, 4, 2)])
        self.assertEqual(shrunk(web, (0, 1, 2)), (Web(3, [(0, 1, 4), (1, 2, 1)]), 1, [0, 1, 2]))

    def test_of_several_the_least_first(self):
        web = Web(6, [(low, high, 1 + low * high) for low, high in combinations(range(5), 2)] + [
            (4, 5, 2), (3, 5, 3), (2, 5, 4)])
        found = shrunk(web, (4,))
        self.assertEqual(found, self.tried(web, (4,)))
        # Two places with three ties each: 1 goes ahead of 5 and takes away its third tie.
        web = Web(6, [(1, 0, 1), (1, 2, 2), (1, 3, 3), (5, 0, 3), (5, 2, 2), (5, 4, 1)])
        self.assertEqual(shrunk(web, (0, 2, 3, 4)), self.tried(web, (0, 2, 3, 4)))
        self.assertEqual(shrunk(web, (0, 2, 3, 4))[1:], (4, [0, 2, 3, 4]))

    def test_results_are_new(self):
        shrunk(EXAMPLE_WEB, (0, 2))[2].append("x")
        self.assertEqual(shrunk(EXAMPLE_WEB, (0, 2))[2], [0, 2])


class WrongArgumentsTest(unittest.TestCase):

    def test_web(self):
        for wrong in (None, True, 3, "", "3 0-1:2", (), [], (3, []), Web):
            for function in (outline, star_of, take_out, shrunk):
                self.assertRaises(InvalidWeb, function, wrong, wrong)
            self.assertRaises(InvalidWeb, parted_outside, wrong, wrong, wrong, wrong)
            self.assertRaises(InvalidWeb, parted_outside, RING, (0,), wrong, wrong)

    def test_outer(self):
        for wrong in (None, True, 0, "", "0", (), [], [0], (1, 0), (0, 0), (4,), (-1,), (True,), (0, True), ("0",), ((0,),),
                      (0, 1, 2, 3, 4), (HUGE,), RING):
            for function in (outline, star_of, shrunk):
                self.assertRaises(InvalidSide, function, RING, wrong)
            self.assertRaises(InvalidSide, parted_outside, RING, wrong, None, wrong)
            self.assertRaises(InvalidSide, parted_outside, RING, (0, 1), RING, wrong)

    def test_outer_of_the_web_ahead_of_it(self):
        self.assertRaises(InvalidSide, parted_outside, EXAMPLE_WEB, (3,), RING, (3,))
        self.assertRaises(InvalidSide, parted_outside, RING, (3,), EXAMPLE_WEB, (3,))
        self.assertIsNone(parted_outside(RING, (3,), EXAMPLE_WEB, (2,)))

    def test_place(self):
        for wrong in (None, True, False, -1, 4, HUGE, "", "0", (), (0,), [0], RING):
            self.assertRaises(InvalidPlace, take_out, RING, wrong)


class LargestTest(unittest.TestCase):

    def test_the_largest(self):
        started = time.perf_counter()
        webs = [Web(10, [(low, high, GREAT - low - high) for low, high in combinations(range(10), 2) if high - low < 6]),
                Web(9, [(low, high, GREAT) for low, high in combinations(range(9), 2)]) + Web(1, []),
                Web(10, [(place, place + 1, GREAT) for place in range(9)] + [(0, 9, 1), (0, 5, GREAT), (2, 7, GREAT)])]
        for web, outer in product(webs, ((0, 1, 2, 3, 4, 9), (4, 5, 6, 7, 8, 9), (9,), (0, 5, 9))):
            told = outline(web, outer)
            self.assertEqual(len(told), 2 ** len(outer))
            small, factor, left = shrunk(web, outer)
            there = tuple(left.index(place) for place in outer)
            self.assertEqual(outline(small, there), [factor * cut for cut in told])
            self.assertIsNone(parted_outside(web, outer, web, outer))
        self.assertLess(time.perf_counter() - started, 20)


if __name__ == "__main__":
    unittest.main()
