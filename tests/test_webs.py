"""Points 6 and 14: webs, sides, cuts and pieces."""

import random
import unittest
from itertools import combinations, permutations, product

from tests import web_trials
from tests.web_trials import GREAT
from thingwise.errors import InvalidOrder, InvalidPlace, InvalidPlaces, InvalidSide, InvalidTies, InvalidWeb, NoLot
from thingwise.tables import Table
from thingwise.webs import Web, cut_gaps, cut_of, glued, is_forest, pieces, renamed, weight_of, with_tie

HUGE = 10 ** 39


def weights_of(web):
    """The weights by the places."""
    return {(low, high): weight for low, high, weight in web.ties}


class WebTest(unittest.TestCase):

    def test_ties_in_either_order_and_any_sequence(self):
        told = [(2, 0, 5), (0, 1, 1), (3, 2, GREAT)]
        for ties in permutations(told):
            for turned in product((False, True), repeat=3):
                given = [(high, low, weight) if turn else (low, high, weight)
                         for (low, high, weight), turn in zip(ties, turned)]
                web = Web(4, given)
                self.assertEqual(web.ties, [(0, 1, 1), (0, 2, 5), (2, 3, GREAT)])

    def test_weights_told_twice_are_added(self):
        self.assertEqual(Web(2, [(0, 1, 2), (1, 0, 3), (0, 1, 2)]).ties, [(0, 1, 7)])
        self.assertEqual(Web(2, [(1, 0, GREAT)] * 40).ties, [(0, 1, 40 * GREAT)])
        self.assertEqual(Web(3, [(1, 2, 1), (0, 1, 1), (2, 1, 0)]).ties, [(0, 1, 1), (1, 2, 1)])

    def test_no_ties_and_weight_0(self):
        for ties in ([], [(0, 1, 0)], [(1, 0, 0), (0, 1, 0)], [(2, 1, 0), (0, 2, 0)]):
            web = Web(3, ties)
            self.assertEqual((web.ties, len(web), list(web)), ([], 0, []))
            self.assertEqual(web, Web(3, []))

    def test_places_ties_len_and_iterating(self):
        for web in web_trials.chosen_webs(40, 9):
            same = Web(web.places, web.ties[::-1])
            self.assertEqual((same.places, same.ties), (web.places, web.ties))
            self.assertIs(type(web.places), int)
            self.assertIs(type(web.ties), list)
            self.assertEqual(web.ties, sorted(web.ties))
            self.assertTrue(all(type(tie) is tuple and tie[0] < tie[1] and tie[2] > 0 for tie in web))
            self.assertEqual(len(web), len(web.ties))
            self.assertEqual([tie for tie in web], web.ties)
            self.assertEqual(list(product(web, web)), list(product(web.ties, repeat=2)))

    def test_by_name(self):
        self.assertEqual(Web(ties=[(1, 0, 4)], places=2), Web(2, [(0, 1, 4)]))

    def test_one_place_and_many_places(self):
        self.assertEqual((Web(1, []).places, Web(1, []).ties), (1, []))
        many = Web(HUGE, [(HUGE - 1, 0, 3)])
        self.assertEqual(many.ties, [(0, HUGE - 1, 3)])
        self.assertRaises(InvalidTies, Web, HUGE, [(HUGE, 0, 3)])

    def test_equal(self):
        web = Web(3, [(0, 1, 2)])
        self.assertTrue(web == Web(3, [(1, 0, 1), (0, 1, 1), (1, 2, 0)]))
        self.assertFalse(web != Web(3, [(0, 1, 2)]))
        for other in (Web(4, [(0, 1, 2)]), Web(3, []), Web(3, [(0, 1, 3)]), Web(3, [(0, 2, 2)]),
                      Web(3, [(0, 1, 2), (1, 2, 1)]), None, True, 3, "", [(0, 1, 2)], ((0, 1, 2),), (3, [(0, 1, 2)]),
                      Table(3, [()]), NoLot("x"), Web):
            self.assertIs(web == other, False)
            self.assertIs(other == web, False)
            self.assertIs(web != other, True)

    def test_later_changes_of_lists_change_nothing(self):
        ties = [(1, 0, 2)]
        web = Web(3, ties)
        self.assertEqual(ties, [(1, 0, 2)])
        ties.append((1, 2, 1))
        ties[0] = (0, 2, 1)
        told = web.ties
        told.append((1, 2, 1))
        told[0] = "x"
        self.assertEqual(web.ties, [(0, 1, 2)])
        self.assertEqual(list(web), [(0, 1, 2)])
        self.assertIsNot(web.ties, web.ties)

    def test_places_and_ties_cannot_be_assigned(self):
        for field in ("places", "ties"):
            with self.assertRaises(AttributeError):
                setattr(Web(2, []), field, 3)

    def test_invalid_places_ahead_of_invalid_ties(self):
        for places in (0, -1, -HUGE, True, False, None, "", "2", (), (1,), [], [1], Web(1, [])):
            for ties in ([], None, (), [(7, 8, 9)]):
                self.assertRaises(InvalidPlaces, Web, places, ties)

    def test_invalid_ties(self):
        for wrong in (None, True, 0, "", "0-1:2", (), (0, 1), (0, 1, 2, 3), [0, 1, 2], (0, 0, 1), (2, 2, 0), (0, 3, 1),
                      (3, 0, 1), (-1, 0, 1), (0, -1, 1), (0, 1, -1), (0, 1, None), (0, 1, True), (0, 1, False),
                      (False, 1, 2), (0, True, 2), ("0", 1, 2), (0, (1,), 2), (0, 1, "2"), (0, HUGE, 1), ((0, 1, 2),),
                      Web(3, []), NoLot("x")):
            self.assertRaises(InvalidTies, Web, 3, [wrong])
            self.assertRaises(InvalidTies, Web, 3, [(0, 1, 2), wrong])
            self.assertRaises(InvalidTies, Web, 3, wrong)
        for wrong in (((0, 1, 2),), {(0, 1, 2): True}, iter([]), range(0), Web(3, [(0, 1, 2)])):
            self.assertRaises(InvalidTies, Web, 3, wrong)


class AddTest(unittest.TestCase):

    def test_side_by_side(self):
        web, other = Web(3, [(0, 2, 4), (1, 2, 1)]), Web(2, [(0, 1, 5)])
        self.assertEqual(web + other, Web(5, [(0, 2, 4), (1, 2, 1), (3, 4, 5)]))
        self.assertEqual(other + web, Web(5, [(0, 1, 5), (2, 4, 4), (3, 4, 1)]))
        self.assertEqual((web, other), (Web(3, [(0, 2, 4), (1, 2, 1)]), Web(2, [(0, 1, 5)])))
        self.assertEqual(web + web, Web(6, [(0, 2, 4), (1, 2, 1), (3, 5, 4), (4, 5, 1)]))
        self.assertEqual(Web(1, []) + Web(2, []), Web(3, []))

    def test_all_ties_stay(self):
        webs = list(web_trials.chosen_webs(14, 5))
        for web, other in product(webs, repeat=2):
            both = web + other
            self.assertIs(type(both), Web)
            self.assertEqual(both.places, web.places + other.places)
            by = web.places
            self.assertEqual(both.ties, web.ties + [(low + by, high + by, weight) for low, high, weight in other.ties])

    def test_added_on(self):
        web = first = Web(2, [(0, 1, 1)])
        web += Web(1, [])
        self.assertEqual((web, first), (Web(3, [(0, 1, 1)]), Web(2, [(0, 1, 1)])))

    def test_any_other_value(self):
        for other in (None, True, False, 0, 1, HUGE, "", "x", (), [], [(0, 1, 1)], (2, []), Table(1, [()]), NoLot("x"),
                      Web):
            with self.assertRaises(InvalidWeb):
                Web(2, []) + other


class TieTest(unittest.TestCase):

    def test_weight_of(self):
        for web in web_trials.chosen_webs(25, 9):
            weights = weights_of(web)
            for low, high in combinations(range(web.places), 2):
                self.assertEqual(weight_of(web, low, high), weights.get((low, high), 0))
                self.assertEqual(weight_of(other_place=low, place=high, web=web), weights.get((low, high), 0))

    def test_with_tie(self):
        for web in web_trials.chosen_webs(12, 6):
            before = Web(web.places, web.ties)
            for place, other_place in permutations(range(web.places), 2):
                for weight in (0, 1, 3, GREAT):
                    changed = with_tie(web, place, other_place, weight)
                    weights = weights_of(web)
                    weights[min(place, other_place), max(place, other_place)] = weight
                    self.assertEqual(changed.places, web.places)
                    self.assertEqual(weights_of(changed), {ends: found for ends, found in weights.items() if found})
                    self.assertEqual(weight_of(changed, place, other_place), weight)
            self.assertEqual(web, before)

    def test_one_place_has_no_other(self):
        for function in (weight_of, glued):
            self.assertRaises(InvalidPlace, function, Web(1, []), 0, 0)
            self.assertRaises(InvalidPlace, function, Web(1, []), 0, 1)
        self.assertRaises(InvalidPlace, with_tie, Web(1, []), 0, 0, 1)


class CutOfTest(unittest.TestCase):

    def test_all_sides(self):
        for web in web_trials.chosen_webs(20, 7):
            for side in web_trials.every_side(web.places):
                self.assertEqual(cut_of(web, side), web_trials.tried_cut(web, side))

    def test_the_empty_side_and_all_places(self):
        for web in web_trials.chosen_webs(20, 9):
            self.assertEqual(cut_of(web, ()), 0)
            self.assertEqual(cut_of(side=tuple(range(web.places)), web=web), 0)

    def test_the_largest(self):
        web = Web(9, [(low, high, GREAT) for low, high in combinations(range(9), 2)])
        self.assertEqual(cut_of(web, (0, 2, 4, 6)), 20 * GREAT)
        self.assertEqual(cut_gaps(web, (0, 1, 2, 3), (3, 4, 5, 6)), (18 * GREAT, 4 * GREAT))

    def test_cut_gaps(self):
        for web in web_trials.chosen_webs(12, 5):
            cuts = {side: web_trials.tried_cut(web, side) for side in web_trials.every_side(web.places)}
            for side, other_side in product(cuts, repeat=2):
                first, second = set(side), set(other_side)
                both = cuts[side] + cuts[other_side]
                gaps = tuple(both - cuts[tuple(sorted(one))] - cuts[tuple(sorted(other))] for one, other in (
                    (first & second, first | second), (first - second, second - first)))
                self.assertEqual(cut_gaps(web, side, other_side), gaps)

    def test_cut_gaps_by_name(self):
        web = Web(4, [(0, 1, 1), (0, 2, 10), (1, 3, 100), (0, 3, 1000)])
        self.assertEqual(cut_gaps(other_side=(0, 1), web=web, side=(0, 2)), (0, 2000))
        self.assertEqual(cut_gaps(web, (0,), (3,)), (2000, 0))

    def test_wrong_sides(self):
        web = Web(3, [(0, 1, 2)])
        for wrong in (None, 0, True, "", "0", [], [0], (1, 0), (0, 0), (3,), (-1,), (True,), (0, True), ("0",), ((0,),)):
            self.assertRaises(InvalidSide, cut_of, web, wrong)
            self.assertRaises(InvalidSide, cut_gaps, web, wrong, ())
            self.assertRaises(InvalidSide, cut_gaps, web, (), wrong)


class GluedTest(unittest.TestCase):

    def tried_glued(self, web, place, other_place):
        """The cuts tell a web whole; a side of the glued web is one of the web in which both are on one hand."""
        left = [old for old in range(web.places) if old != other_place]
        sides = {}
        for side in web_trials.every_side(web.places):
            if (place in side) == (other_place in side):
                sides[tuple(left.index(old) for old in side if old != other_place)] = web_trials.tried_cut(web, side)
        return sides

    def test_all_places(self):
        for web in web_trials.chosen_webs(24, 6):
            for place, other_place in permutations(range(web.places), 2):
                joined = glued(web, place, other_place)
                self.assertEqual(joined.places, web.places - 1)
                for side, cut in self.tried_glued(web, place, other_place).items():
                    self.assertEqual(web_trials.tried_cut(joined, side), cut)

    def test_examples(self):
        web = Web(4, [(0, 1, 1), (0, 2, 10), (0, 3, 100), (1, 3, 1000), (2, 3, 10000)])
        self.assertEqual(glued(web, 0, 2), Web(3, [(0, 1, 1), (0, 2, 10100), (1, 2, 1000)]))
        self.assertEqual(glued(web, 2, 0), Web(3, [(0, 1, 1), (1, 2, 10100), (0, 2, 1000)]))
        self.assertEqual(glued(other_place=0, web=web, place=3), Web(3, [(0, 2, 1001), (1, 2, 10010)]))
        self.assertEqual(glued(Web(2, [(0, 1, 5)]), 1, 0), Web(1, []))
        self.assertEqual(web, Web(4, [(0, 1, 1), (0, 2, 10), (0, 3, 100), (1, 3, 1000), (2, 3, 10000)]))


class RenamedTest(unittest.TestCase):

    def test_all_orders(self):
        for web in web_trials.chosen_webs(12, 5):
            weights = weights_of(web)
            for order in permutations(range(web.places)):
                changed = weights_of(renamed(web, order))
                self.assertEqual(len(changed), len(weights))
                for (low, high), weight in changed.items():
                    self.assertEqual(weights[min(order[low], order[high]), max(order[low], order[high])], weight)

    def test_examples(self):
        web = Web(4, [(0, 1, 1), (2, 3, 2)])
        self.assertEqual(renamed(web, (2, 0, 1, 3)), Web(4, [(1, 2, 1), (0, 3, 2)]))
        self.assertEqual(renamed(order=(0, 1, 2, 3), web=web), web)
        self.assertEqual(renamed(Web(1, []), (0,)), Web(1, []))

    def test_wrong_orders(self):
        for wrong in (None, 0, "", "012", (), (0,), (0, 1), (0, 1, 1), (0, 0, 1), (0, 1, 2, 2), (0, 1, 2, 0), (1, 2, 3),
                      (0, 1, 3), (-1, 0, 1), [0, 1, 2], (0, True, 2), (False, 1, 2), ("0", 1, 2), ((0,), 1, 2),
                      (0, None, 2), (0, 1, 2, 3)):
            self.assertRaises(InvalidOrder, renamed, Web(3, []), wrong)


class PiecesTest(unittest.TestCase):

    def tried_pieces(self, web):
        """The least sides without a place outside to which there is a tie."""
        names = list(range(web.places))
        for low, high, _ in web.ties:
            names = [names[low] if name == names[high] else name for name in names]
        return sorted(tuple(place for place in range(web.places) if names[place] == name) for name in set(names))

    def is_tried_forest(self, web):
        """No set of ties in which each end has two of them."""
        for size in range(3, len(web.ties) + 1):
            for chosen in combinations(web.ties, size):
                ends = [end for tie in chosen for end in tie[:2]]
                if all(ends.count(end) == 2 for end in ends):
                    return False
        return True

    def test_pieces(self):
        for web in [*web_trials.all_small_webs(), *web_trials.chosen_webs(80, 9)]:
            found = pieces(web)
            self.assertIs(type(found), list)
            self.assertEqual(found, self.tried_pieces(web))

    def test_examples(self):
        self.assertEqual(pieces(Web(4, [])), [(0,), (1,), (2,), (3,)])
        self.assertEqual(pieces(Web(5, [(4, 0, 1), (1, 3, 2)])), [(0, 4), (1, 3), (2,)])
        self.assertEqual(pieces(web=Web(3, [(2, 1, 1), (1, 0, 1)])), [(0, 1, 2)])
        self.assertEqual(pieces(Web(3, [(2, 1, 0), (1, 0, 1)])), [(0, 1), (2,)])

    def test_is_forest(self):
        found = []
        for web in [*web_trials.all_small_webs(), *web_trials.chosen_webs(60, 7)]:
            if len(web.ties) < 11:
                found.append(is_forest(web))
                self.assertIs(found[-1], self.is_tried_forest(web))
        self.assertEqual(set(found), {True, False})

    def test_is_forest_of_examples(self):
        self.assertIs(is_forest(Web(1, [])), True)
        self.assertIs(is_forest(web=Web(9, [])), True)
        self.assertIs(is_forest(Web(9, [(place, place + 1, GREAT) for place in range(8)])), True)
        self.assertIs(is_forest(Web(9, [(place, place + 1, 1) for place in range(8)] + [(8, 0, 1)])), False)
        self.assertIs(is_forest(Web(3, [(0, 1, 1), (1, 0, 1), (1, 2, 1), (0, 2, 0)])), True)
        # A row back in one piece, none in the other ones: fewer ties than places, and yet no forest.
        self.assertIs(is_forest(Web(6, [(0, 1, 1), (1, 2, 1), (0, 2, 1)])), False)

    def test_random_forests(self):
        chance = random.Random(5)
        for _ in range(30):
            ties = [(chance.randrange(place), place, chance.randint(1, 9)) for place in range(1, 9)]
            self.assertIs(is_forest(Web(9, ties)), True)
            self.assertEqual(pieces(Web(9, ties)), [tuple(range(9))])
            self.assertEqual(len(pieces(Web(9, ties[1:]))), 2)


if __name__ == "__main__":
    unittest.main()
