"""Point 10: the facts F1 and F2 hold of what the program answers."""

import unittest
from itertools import combinations

from tests import trials
from thingwise.errors import NoLot
from thingwise.parts import can_be, closure, contrary
from thingwise.tables import Table, closed_table, middles_to, missing_middle, rules_of, table_of


class FactsTest(unittest.TestCase):

    def test_f1_rules_tell_the_least_closed_table(self):
        for things, lots in trials.all_lists_of_lots(10):
            table = Table(things, lots)
            told = table_of(things, rules_of(table))
            self.assertEqual(told, closed_table(table))
            self.assertEqual(told == table, missing_middle(table) is None)
            self.assertEqual(rules_of(told), rules_of(table))

    def test_f1_few_middles_are_enough(self):
        for things, lots in trials.greater_lists_of_lots(5):
            table = Table(things, lots)
            for lot in closed_table(table):
                self.assertLessEqual(len(middles_to(table, lot)), 2 ** things)

    def test_f2_two_literals_at_a_time(self):
        for table in trials.closed_tables(5):
            for part in trials.chosen_parts(table.things, 40):
                groups = [group for size in (1, 2) for group in combinations(part, size)]
                self.assertEqual(can_be(table, part), all([can_be(table, group) for group in groups]))

    def test_f2_rules_tell_the_closure(self):
        for table in trials.closed_tables(5):
            rules = [rule for rule in trials.every_rule(table.things)
                     if all(trials.does_keep(lot, rule) for lot in table)]
            for part in trials.chosen_parts(table.things, 20):
                if can_be(table, part):
                    self.assertEqual(closure(table, part), self.closure_by_rules(table, rules, part))
                else:
                    self.assertRaises(NoLot, closure, table, part)

    def closure_by_rules(self, table, rules, part):
        found = []
        for literal in trials.every_literal(table.things):
            brought = [tuple(sorted([contrary(known), literal])) in rules for known in part]
            if literal in part or (literal,) in rules or any(brought):
                found.append(literal)
        return tuple(found)


if __name__ == "__main__":
    unittest.main()
