"""Point 10: the facts F1 to F13 hold of what the program answers."""

import unittest
from itertools import combinations, product

from tests import trials, web_trials
from thingwise.best import barred, best_fillings, best_with, extra, is_best, middle_filling
from thingwise.cuts import brings, flow, flow_worth, least_cut, least_sides
from thingwise.errors import NoLot
from thingwise.forests import margin, messages
from thingwise.outsides import outline, parted_outside, star_of, take_out
from thingwise.parts import can_be, closure, contrary
from thingwise.prices import lot_prices, price, sure, thing_price
from thingwise.tables import Table, closed_table, middles_to, missing_middle, rules_of, table_of
from thingwise.tasks import Task, best_toward, cost, fills, least_total, star_against, thing_cuts
from thingwise.ties import bends, crossings, tie_numbers, total_at
from thingwise.webs import Web, cut_gaps, cut_of, weight_of, with_tie


class FactsTest(unittest.TestCase):

    def test_f1_rules_tell_the_least_closed_table(self):
        for things, lots in trials.all_lists_of_lots(10):
            table = Table(things, lots)
            told = table_of(things, rules_of(table))
            self.assertEqual(told, closed_table(table))
            self.assertEqual(told == table, missing_middle(table) is None)
            self.assertEqual(rules_of(told), rules_of(table))

    def test_f1_few_middles_are_enough(self):
        for things, lots in trials.greater_lists_of_lots(5):
            table = Table(things, lots)
            for lot in closed_table(table):
                self.assertLessEqual(len(middles_to(table, lot)), 2 ** things)

    def test_f2_two_literals_at_a_time(self):
        for table in trials.closed_tables(5):
            for part in trials.chosen_parts(table.things, 40):
                groups = [group for size in (1, 2) for group in combinations(part, size)]
                self.assertEqual(can_be(table, part), all([can_be(table, group) for group in groups]))

    def test_f2_rules_tell_the_closure(self):
        for table in trials.closed_tables(5):
            rules = [rule for rule in trials.every_rule(table.things)
                     if all(trials.does_keep(lot, rule) for lot in table)]
            for part in trials.chosen_parts(table.things, 20):
                if can_be(table, part):
                    self.assertEqual(closure(table, part), self.closure_by_rules(table, rules, part))
                else:
                    self.assertRaises(NoLot, closure, table, part)

    def closure_by_rules(self, table, rules, part):
        found = []
        for literal in trials.every_literal(table.things):
            brought = [tuple(sorted([contrary(known), literal])) in rules for known in part]
            if literal in part or (literal,) in rules or any(brought):
                found.append(literal)
        return tuple(found)

    def test_f3_what_two_cuts_are_more(self):
        for web in web_trials.chosen_webs(12, 5):
            for side, other in product(web_trials.every_side(web.places), repeat=2):
                crossing = in_both_and_neither = 0
                for low, high, weight in web:
                    if (low in side) == (low not in other) == (high not in side) == (high in other):
                        crossing += weight
                    if (low in side) == (low in other) == (high not in side) == (high not in other):
                        in_both_and_neither += weight
                self.assertEqual(cut_gaps(web, side, other), (2 * crossing, 2 * in_both_and_neither))

    def test_f4_common_places_and_all_places_together(self):
        for web, must, never in web_trials.webs_and_betweens():
            sides = least_sides(web, must, never)
            if len(sides) < 20:
                for side, other in combinations(sides, 2):
                    self.assertIn(tuple(sorted(set(side) & set(other))), sides)
                    self.assertIn(tuple(sorted(set(side) | set(other))), sides)

    def test_f4_what_least_sides_have(self):
        for web, must, never in web_trials.webs_and_betweens():
            if web.places < 7:
                least, low, high = least_cut(web, must, never)
                brought = brings(web, must, never)
                for side in web_trials.every_side(web.places):
                    if set(must) <= set(side) and not set(never) & set(side):
                        told = set(low) <= set(side) <= set(high) and all(q in side for p, q in brought if p in side)
                        self.assertIs(cut_of(web, side) == least, told)

    def test_f5_flows_and_cuts(self):
        for web, must, never in web_trials.webs_and_betweens():
            rows = flow(web, must, never)
            worth = flow_worth(web, must, never, rows)
            self.assertEqual(worth, least_cut(web, must, never)[0])
            for side in web_trials.every_side(min(web.places, 6)):
                if set(must) <= set(side) and not set(never) & set(side):
                    self.assertLessEqual(worth, cut_of(web, side))

    def test_f6_best_fillings_are_sides_of_things(self):
        for table, web, parts in web_trials.chosen_tasks(60, 300):
            task = Task(table, web, parts)
            self.assertEqual(least_total(task), sum(told[0] for told in thing_cuts(task)))
            sides = [least_sides(web, *web_trials.tried_between(task.parts, thing)) for thing in range(table.things)]
            for filling in web_trials.tried_fillings(table, parts):
                there = [tuple(place for place in range(web.places) if thing in filling[place])
                         for thing in range(table.things)]
                told = all(side in found for side, found in zip(there, sides))
                self.assertIs(cost(web, filling) == least_total(task), told)

    def test_f7_stars(self):
        for things, lots in trials.all_lists_of_lots(4):
            found = star_against(Table(things, lots))
            if found is not None:
                web, parts, thing_by_thing, least = found
                between = [web_trials.tried_between(parts, thing) for thing in range(things)]
                self.assertEqual(thing_by_thing, sum(least_cut(web, must, never)[0] for must, never in between))
                self.assertLess(thing_by_thing, least)

    def test_f8_just_one_filling_toward_a_lot(self):
        for table, web, parts in web_trials.chosen_tasks(60, 300):
            task = Task(table, web, parts)
            best = web_trials.tried_best(table, web, parts)[1]
            for toward in table:
                agreeing = [filling for filling in best if all(
                    self.is_as_near(filling[place], other[place], toward)
                    for other in best for place in range(web.places))]
                self.assertEqual(agreeing, [best_toward(task, toward)])
                self.assertTrue(fills(task, best_toward(task, toward)))

    def is_as_near(self, lot, other, toward):
        """Whether the lot agrees with the one toward in each thing in which the other one does."""
        return set(lot) ^ set(toward) <= set(other) ^ set(toward)

    def test_f9_sums_of_thing_prices(self):
        for table, web, parts in web_trials.chosen_tasks(50, 300):
            task = Task(table, web, parts)
            for place in range(web.places):
                alone = {literal: thing_price(task, place, literal) for literal in trials.every_literal(table.things)}
                for literal, found in alone.items():
                    longer = tuple(sorted({*task.parts[place], literal}))
                    if found is None:
                        self.assertIsNone(price(task, place, literal))
                    else:
                        brought = closure(table, longer)
                        self.assertEqual(price(task, place, literal), sum(alone[known] for known in brought))
                        self.assertEqual(price(task, place, literal) == 0, found == 0)
                    against = alone[contrary(literal)]
                    self.assertEqual(literal in sure(task, place), against is None or against > 0)
                for more, lot in lot_prices(task, place):
                    met = [found for literal, found in alone.items() if trials.does_meet(lot, literal)]
                    self.assertEqual(more, sum(met))

    def test_f9_prices_of_some_wishes(self):
        for table, web, parts in web_trials.chosen_tasks(50, 300):
            task = Task(table, web, parts)
            for wishes in web_trials.chosen_wishes(table, web, 6):
                longer = tuple(tuple(sorted({*part, *[literal for at, literal in wishes if at == place]}))
                               for place, part in enumerate(parts))
                if extra(task, wishes) is not None:
                    self.assertEqual(extra(task, wishes), least_total(Task(table, web, longer)) - least_total(task))

    def test_f10_middles_of_best_fillings(self):
        for table, web, parts in [*web_trials.chosen_tasks(60, 300), *web_trials.open_tasks(28, 300)]:
            task = Task(table, web, parts)
            for three in combinations(best_fillings(task)[:12], 3):
                found = middle_filling(*three)
                self.assertEqual(found, tuple(trials.tried_middle(lots) for lots in zip(*three)))
                self.assertTrue(is_best(task, found))

    def test_f10_two_wishes_at_a_time(self):
        for table, web, parts in [*web_trials.chosen_tasks(40, 300), *web_trials.open_tasks(21, 300)]:
            task = Task(table, web, parts)
            for wishes in web_trials.chosen_wishes(table, web, 12):
                groups = [list(group) for size in (1, 2) for group in combinations(wishes, size)]
                told = all([best_with(task, group) is not None for group in groups])
                self.assertIs(best_with(task, wishes) is not None, told)
                self.assertIs(barred(task, wishes) is None, told)

    def test_f11_the_total_at_each_weight(self):
        for table, web, parts in web_trials.chosen_tasks(60, 300):
            task = Task(table, web, parts)
            for ends in list(combinations(range(web.places), 2))[:6]:
                numbers = tie_numbers(task, *ends)
                above_all = 99 * web_trials.GREAT
                found = sorted([above_all if alike is None else alike - apart for alike, apart in numbers])
                self.assertEqual(bends(task, *ends), [bend for bend in found if bend < above_all])
                for weight in (0, 1, 2, 3, web_trials.GREAT):
                    cuts = [apart + weight if alike is None else min(alike, apart + weight) for alike, apart in numbers]
                    self.assertEqual(total_at(task, *ends, weight), sum(cuts))
                    there = Task(table, with_tie(web, *ends, weight), parts)
                    self.assertEqual([told[0] for told in thing_cuts(there)], cuts)
                    if weight > 0:
                        numbers_apart = (sum(bend > weight for bend in found), sum(bend >= weight for bend in found))
                        self.assertEqual(crossings(task, *ends, weight), numbers_apart)

    def test_f12_messages(self):
        for table, web, parts in web_trials.chosen_forest_tasks(60, 9):
            task = Task(table, web, parts)
            for thing in range(table.things):
                must, never = web_trials.tried_between(task.parts, thing)
                told = {row[:2]: row[2] for row in messages(task, thing)}
                for (place, other), message in told.items():
                    weight = weight_of(web, place, other)
                    heard = sum(found for way, found in told.items() if way[1] == place and way[0] != other)
                    by_sum = max(-weight, min(weight, heard))
                    self.assertEqual(message, weight if place in must else -weight if place in never else by_sum)
                for place in range(web.places):
                    if place not in must + never:
                        found = sum(message for way, message in told.items() if way[1] == place)
                        self.assertEqual(margin(task, place, thing), found)
                        self.assertEqual(thing_price(task, place, (thing, "in")), max(0, -found))
                        self.assertEqual(thing_price(task, place, (thing, "out")), max(0, found))

    def test_f13_places_taken_out(self):
        for web in web_trials.chosen_webs(40, 6):
            for place in range(web.places):
                weights = [tie[2] for tie in web if place in tie[:2]]
                if web.places > 1 and len(weights) < 4:
                    small, factor = take_out(web, place)
                    others = tuple(other for other in range(web.places) if other != place)
                    doubled = Web(web.places, [(low, high, factor * weight) for low, high, weight in web])
                    self.assertEqual(factor, 2 if len(weights) == 3 else 1)
                    self.assertIsNone(parted_outside(doubled, others, small, tuple(range(small.places))))
                    self.assertTrue(all(weight > 0 for _, _, weight in small))

    def test_f13_stars_and_triangles(self):
        """A star taken out makes the triangle with the doubled outline, and the triangle's star is the doubled star."""
        for weights in product((1, 2, 3, 7), repeat=3):
            star = Web(4, [(place, 3, weight) for place, weight in enumerate(weights)])
            triangle, factor = take_out(star, 3)
            self.assertEqual((triangle.places, factor), (3, 2))
            free = [min(weight, sum(weights) - weight) for weight in weights]
            self.assertEqual(outline(triangle, (0, 1, 2))[1:4], [2 * free[0], 2 * free[1], 2 * free[2]])
            self.assertEqual(star_of(triangle, (0, 1, 2)), Web(4, [(k, 3, 2 * found) for k, found in enumerate(free)]))


if __name__ == "__main__":
    unittest.main()
