"""Points 5 and 13: literals and parts."""

import unittest
from itertools import combinations

from tests import trials
from thingwise.errors import InvalidLiteral, InvalidLot, InvalidPart, NoLot, NotClosed
from thingwise.parts import can_be, clash, closure, contrary, fits, why
from thingwise.tables import Table

HUGE = 10 ** 39
NOT_CLOSED = Table(3, [(0,), (1,), (2,)])


class ContraryTest(unittest.TestCase):

    def test_once_and_twice(self):
        for thing in (0, 1, 5, 6, 100, HUGE):
            self.assertEqual(contrary((thing, "in")), (thing, "out"))
            self.assertEqual(contrary((thing, "out")), (thing, "in"))
            self.assertEqual(contrary(literal=contrary((thing, "in"))), (thing, "in"))

    def test_wrong_literals(self):
        for wrong in (None, 0, True, "in", "", (), (0,), (0, "in", 1), [0, "in"], (True, "in"), (False, "out"),
                      (-1, "in"), ("0", "in"), ("in", 0), (0, "In"), (0, ""), (0, "not"), (0, "i"), (0, None), (0, True),
                      (0, 1), (0, ("in",)), (0, ["in"]), ((0, "in"),), (None, "in"), NOT_CLOSED, (0, NOT_CLOSED)):
            with self.assertRaises(InvalidLiteral):
                contrary(wrong)


class FitsTest(unittest.TestCase):

    def test_all_of_three_things(self):
        for lot in trials.every_lot(3):
            for part in trials.every_part(3):
                self.assertIs(fits(lot, part), trials.does_fit(lot, part))

    def test_any_things(self):
        lot = (3, 70, HUGE)
        self.assertIs(fits(lot, ((HUGE, "in"),)), True)
        self.assertIs(fits(lot, ((HUGE, "out"),)), False)
        self.assertIs(fits(lot, ((0, "out"), (3, "in"), (HUGE + 1, "out"))), True)
        self.assertIs(fits(lot, ((3, "in"), (HUGE + 1, "in"))), False)
        self.assertIs(fits(part=(), lot=()), True)

    def test_wrong(self):
        for lot in (None, [], (1, 0), (True,), "", 0):
            with self.assertRaises(InvalidLot):
                fits(lot, None)
        for part in (None, [], "", 0, True, (0,), ("in",), (0, "in"), ((0, "in"), (0, "out")), ((0, "in"), (0, "in")),
                     ((1, "in"), (0, "in")), ((0, "on"),), [(0, "in")], ((True, "in"),), ((0, "in"), None),
                     ([0, "in"],), ((-1, "in"),), ((0, "in"), (True, "out")), ((0, "in"), ("1", "in"))):
            with self.assertRaises(InvalidPart):
                fits((), part)


class ClosureTest(unittest.TestCase):

    def test_against_all_lots(self):
        for things, lots in trials.all_lists_of_lots(4):
            table = Table(things, lots)
            for part in trials.chosen_parts(things, 60):
                self.check_part(table, lots, part)

    def check_part(self, table, lots, part):
        tried = trials.tried_closure(table.things, lots, part)
        self.assertIs(can_be(table, part), tried is not None)
        if tried is None:
            with self.assertRaises(NoLot):
                closure(table, part)
        else:
            self.assertEqual(closure(table, part), tried)
            self.assertEqual(closure(table, tried), tried)

    def test_examples(self):
        table = Table(2, [(), (0,), (1,)])
        self.assertEqual(closure(table, ((0, "in"),)), ((0, "in"), (1, "out")))
        self.assertEqual(closure(table, ()), ())
        self.assertEqual(closure(part=(), table=Table(2, [(1,)])), ((0, "out"), (1, "in")))
        self.assertIs(can_be(part=((0, "in"), (1, "in")), table=table), False)

    def test_a_table_that_is_not_closed(self):
        self.assertEqual(closure(NOT_CLOSED, ((0, "out"), (1, "out"))), ((0, "out"), (1, "out"), (2, "in")))
        self.assertRaises(NoLot, closure, NOT_CLOSED, ((0, "out"), (1, "out"), (2, "out")))


class ClashTest(unittest.TestCase):

    def tried_clash(self, table, part):
        """The least group of one or two literals that no lot meets together, those with one ahead."""
        groups = [group for size in (1, 2) for group in combinations(part, size)]
        barred = [group for group in groups if not any(trials.does_fit(lot, group) for lot in table.lots)]
        return min(barred, key=lambda group: (len(group), group))

    def test_against_all_lots(self):
        sizes = []
        for table in trials.closed_tables(6):
            for part in trials.chosen_parts(table.things, 60):
                if trials.tried_closure(table.things, table.lots, part) is None:
                    sizes.append(len(clash(table, part)))
                    self.assertEqual(clash(table, part), self.tried_clash(table, part))
                else:
                    self.assertIsNone(clash(table, part))
        self.assertEqual(set(sizes), {1, 2})

    def test_one_literal_ahead_of_two(self):
        table = Table(3, [(), (0,), (1,)])
        self.assertEqual(clash(table, ((0, "in"), (1, "in"), (2, "in"))), ((2, "in"),))
        self.assertEqual(clash(part=((0, "in"), (1, "in"), (2, "out")), table=table), ((0, "in"), (1, "in")))

    def test_the_least_pair(self):
        at_most_one = Table(3, [(), (0,), (1,), (2,)])
        self.assertEqual(clash(at_most_one, ((0, "in"), (1, "in"), (2, "in"))), ((0, "in"), (1, "in")))
        self.assertEqual(clash(at_most_one, ((0, "out"), (1, "in"), (2, "in"))), ((1, "in"), (2, "in")))

    def test_not_closed_whatever_the_part(self):
        for part in trials.every_part(3):
            self.assertRaises(NotClosed, clash, NOT_CLOSED, part)


class WhyTest(unittest.TestCase):

    def check_why(self, table, part, literal):
        """What kind of answer it was, after a look at whether it is right."""
        answer = why(table, part, literal)
        if literal not in trials.tried_closure(table.things, table.lots, part):
            self.assertIsNone(answer)
            return "none"
        if literal in part:
            self.assertEqual((answer, type(answer)), ((), tuple))
            return "there"
        self.assertTrue(all(trials.does_keep(lot, answer) for lot in table.lots))
        if len(answer) == 1:
            self.assertEqual(answer, (literal,))
            return "one"
        possible = [tuple(sorted([literal, (thing, "in" if word == "out" else "out")])) for thing, word in part]
        self.assertIn(answer, possible)
        return "two"

    def test_against_all_lots(self):
        kinds = set()
        for table in trials.closed_tables(4):
            for part in trials.chosen_parts(table.things, 30):
                for literal in trials.every_literal(table.things):
                    if trials.tried_closure(table.things, table.lots, part) is None:
                        self.assertRaises(NoLot, why, table, part, literal)
                    else:
                        kinds.add(self.check_why(table, part, literal))
        self.assertEqual(kinds, {"none", "there", "one", "two"})

    def test_examples(self):
        table = Table(3, [(), (0,), (1,)])
        self.assertEqual(why(table, ((0, "in"),), (1, "out")), ((0, "out"), (1, "out")))
        self.assertEqual(why(table, ((1, "in"),), (0, "out")), ((0, "out"), (1, "out")))
        self.assertEqual(why(table, (), (2, "out")), ((2, "out"),))
        self.assertEqual(why(table, ((2, "out"),), (2, "out")), ())
        self.assertIsNone(why(table, ((0, "out"),), (1, "in")))
        self.assertIsNone(why(literal=(2, "in"), part=(), table=table))

    def test_not_closed_ahead_of_no_lot(self):
        for part in trials.every_part(3):
            self.assertRaises(NotClosed, why, NOT_CLOSED, part, (0, "in"))
        self.assertRaises(NoLot, why, Table(2, [()]), ((0, "in"),), (0, "in"))


if __name__ == "__main__":
    unittest.main()
