"""Points 3, 4 and 12: things, lots, rules and tables."""

import random
import unittest
from itertools import permutations, product

from tests import trials
from thingwise.errors import InvalidLot, InvalidRules, InvalidTable, InvalidThings, NoLot
from thingwise.tables import (
    Table, closed_table, judge_middles, middle, middles_to, missing_middle, rules_of, table_of)

HUGE = 10 ** 39


class TableTest(unittest.TestCase):

    def test_equal_lots_count_once_in_any_sequence(self):
        for lots in permutations([(), (1,), (0, 1), (1,)]):
            table = Table(2, list(lots))
            self.assertEqual(table.lots, [(), (0, 1), (1,)])
            self.assertEqual(len(table), 3)

    def test_things_lots_len_and_iterating(self):
        for things, lots in trials.all_lists_of_lots(5):
            table = Table(things, lots[::-1] + lots[:2])
            self.assertEqual((table.things, type(table.things)), (things, int))
            self.assertEqual(table.lots, sorted(lots))
            self.assertIs(type(table.lots), list)
            self.assertEqual(len(table), len(lots))
            self.assertEqual(list(table), sorted(lots))
            self.assertEqual([lot for lot in table], sorted(lots))

    def test_iterating_twice_at_a_time(self):
        table = Table(2, [(), (0,)])
        self.assertEqual(list(product(table, table)), list(product([(), (0,)], repeat=2)))

    def test_by_name(self):
        self.assertEqual(Table(lots=[(0,)], things=1), Table(1, [(0,)]))

    def test_in_tells_of_any_value(self):
        table = Table(3, [(), (1,), (0, 2)])
        for value in ((), (1,), (0, 2)):
            self.assertIs(value in table, True)
        for value in ((0,), (2,), (0, 1), (2, 0), (1, 1), (3,), (-1,), (HUGE,), (True,), (False, 2), (0, True),
                      [], [1], [0, 2], ["1"], None, True, False, 0, 1, "", "1", "()", ("1",), ((1,),), ([1],), (None,),
                      table, (table,), [()], ((),), NoLot("x"), InvalidTable):
            self.assertIs(value in table, False, value)

    def test_the_empty_lot_is_not_always_there(self):
        self.assertNotIn((), Table(1, [(0,)]))

    def test_equal(self):
        table = Table(2, [(), (0,)])
        self.assertTrue(table == Table(2, [(0,), (), (0,)]))
        self.assertFalse(table != Table(2, [(0,), ()]))
        for other in (Table(3, [(), (0,)]), Table(2, [()]), Table(2, [(), (1,)]), Table(2, [(), (0,), (1,)]),
                      None, True, 2, "", [(), (0,)], ((), (0,)), (2, [(), (0,)]), NoLot("x"), Table):
            self.assertIs(table == other, False)
            self.assertIs(other == table, False)
            self.assertIs(table != other, True)

    def test_later_changes_of_lists_change_nothing(self):
        lots = [(1,), ()]
        table = Table(2, lots)
        self.assertEqual(lots, [(1,), ()])
        lots.append((0,))
        lots[0] = (0, 1)
        self.assertEqual(table.lots, [(), (1,)])
        told = table.lots
        told.append((0,))
        told[0] = "x"
        self.assertEqual(table.lots, [(), (1,)])
        self.assertEqual(list(table), [(), (1,)])
        self.assertEqual(table, Table(2, [(), (1,)]))
        self.assertIsNot(table.lots, table.lots)

    def test_things_and_lots_cannot_be_assigned(self):
        table = Table(2, [()])
        for field in ("things", "lots"):
            with self.assertRaises(AttributeError):
                setattr(table, field, 3)

    def test_invalid_things_ahead_of_invalid_table(self):
        for things in (0, -1, -HUGE, True, False, None, "", "2", (), (1,), [], [1], Table(1, [()])):
            for lots in ([()], None, [], [(7,)]):
                with self.assertRaises(InvalidThings):
                    Table(things, lots)

    def test_invalid_table(self):
        for lots in (None, True, 0, 1, "", "()", (), ((),), ((0,),), [], [None], [True], [0], [""], ["0"], [[]], [[0]],
                     [(), [0]], [(True,)], [(False,)], [(0, True)], [(False, 1)], [(1, 0)], [(0, 0)], [(2,)], [(0, 2)],
                     [(-1,)], [(-1, 0)], [(HUGE,)], [("0",)], [(None,)], [((0,),)], [([0],)], [(), (0,), (1,), (2,)],
                     [(0, (1,))], [(0, "1")], [(0, None)], Table(2, [()]), [Table(2, [()])], [NoLot("x")]):
            with self.assertRaises(InvalidTable):
                Table(2, lots)

    def test_many_things(self):
        table = Table(HUGE, [(HUGE - 1,), ()])
        self.assertEqual(table.lots, [(), (HUGE - 1,)])
        self.assertIn((HUGE - 1,), table)
        with self.assertRaises(InvalidTable):
            Table(HUGE, [(HUGE,)])


class MiddleTest(unittest.TestCase):

    def test_all_of_three_things_in_all_sequences(self):
        for lots in product(trials.every_lot(3), repeat=3):
            self.assertEqual(middle(*lots), trials.tried_middle(lots))

    def test_two_alike(self):
        for lot, other in product(trials.every_lot(4), repeat=2):
            for lots in ((lot, lot, other), (lot, other, lot), (other, lot, lot)):
                self.assertEqual(middle(*lots), lot)

    def test_any_things(self):
        low, high, more = (0, 8, HUGE), (8, HUGE, HUGE + 1), (0, 70, HUGE + 1)
        for lots in permutations((low, high, more)):
            self.assertEqual(middle(*lots), (0, 8, HUGE, HUGE + 1))
        chance = random.Random(3)
        for _ in range(200):
            lots = [tuple(sorted(chance.sample(range(HUGE, HUGE + 12), chance.randint(0, 12)))) for _ in range(3)]
            self.assertEqual(middle(*lots), trials.tried_middle(lots))

    def test_by_name(self):
        self.assertEqual(middle(third_lot=(1, 3), lot=(0, 1), other_lot=(0, 2, 3)), (0, 1, 3))

    def test_wrong_lots(self):
        for wrong in (None, 1, True, "", [], [0], (True,), (1, 0), (0, 0), (-1,), ("0",), ((),)):
            for lots in ((wrong, (), ()), ((), wrong, ()), ((), (), wrong), (wrong, wrong, wrong)):
                with self.assertRaises(InvalidLot):
                    middle(*lots)


class ClosedTest(unittest.TestCase):

    def check_missing(self, things, lots):
        missing = missing_middle(Table(things, lots))
        self.assertEqual(missing is None, trials.is_tried_closed(lots))
        if missing is not None:
            self.assertEqual((type(missing), len(missing)), (tuple, 3))
            self.assertTrue(all(lot in lots for lot in missing))
            self.assertNotIn(trials.tried_middle(missing), lots)

    def test_missing_middle(self):
        for things, lots in trials.all_lists_of_lots(15):
            self.check_missing(things, lots)

    def test_missing_middle_of_the_example(self):
        self.assertEqual(sorted(missing_middle(Table(3, [(0,), (1,), (2,)]))), [(0,), (1,), (2,)])
        self.assertIsNone(missing_middle(Table(2, [(), (0,), (1,)])))

    def test_closed_table(self):
        for things, lots in trials.all_lists_of_lots(15):
            table = Table(things, lots)
            closed = closed_table(table)
            self.assertIs(type(closed), Table)
            self.assertEqual(closed, Table(things, trials.tried_closed_lots(things, lots)))
            self.assertEqual(table, Table(things, lots))
            self.assertEqual(closed_table(closed), closed)
            self.assertIsNone(missing_middle(closed))

    def test_equal_tables_have_equal_answers(self):
        for things, lots in trials.greater_lists_of_lots(5):
            table, other = Table(things, lots), Table(things, lots[::-1])
            self.assertEqual(missing_middle(table), missing_middle(other))
            for lot in trials.every_lot(things)[::5]:
                self.assertEqual(middles_to(table, lot), middles_to(other, lot))


class RulesTest(unittest.TestCase):

    def test_rules_of(self):
        for things, lots in trials.all_lists_of_lots(15):
            self.assertEqual(rules_of(Table(things, lots)), trials.tried_rules(things, lots))

    def test_rules_of_examples(self):
        self.assertEqual(rules_of(Table(2, [(), (0,), (1,)])), [((0, "out"), (1, "out"))])
        self.assertEqual(rules_of(Table(2, [(), (1,), (0, 1)])), [((0, "out"), (1, "in"))])
        self.assertEqual(rules_of(Table(1, [(), (0,)])), [])
        self.assertEqual(rules_of(Table(2, [(1,)])), [((0, "out"),), ((1, "in"),)])

    def test_rules_are_new_lists(self):
        table = Table(2, [(1,)])
        rules_of(table).append("x")
        self.assertEqual(rules_of(table), [((0, "out"),), ((1, "in"),)])

    def check_table_of(self, things, rules):
        lots = [lot for lot in trials.every_lot(things) if all(trials.does_keep(lot, rule) for rule in rules)]
        before = list(rules)
        if lots:
            table = table_of(things, rules)
            self.assertEqual((table.things, table.lots), (things, lots))
        else:
            with self.assertRaises(NoLot):
                table_of(things, rules)
        self.assertEqual(rules, before)
        return bool(lots)

    def test_table_of(self):
        chance = random.Random(4)
        found = []
        for things in range(1, 7):
            rules = trials.every_rule(things)
            found.append(self.check_table_of(things, []))
            for rule in rules:
                found.append(self.check_table_of(things, [rule]))
                found.append(self.check_table_of(things, [rule, rule]))
            for _ in range(150):
                found.append(self.check_table_of(things, [chance.choice(rules) for _ in range(chance.randint(2, 8))]))
            found.append(self.check_table_of(things, [chance.choice(rules) for _ in range(40)]))
        self.assertEqual(set(found), {True, False})

    def test_rules_have_one_literal_or_two(self):
        for rule in ((), ((0, "in"), (1, "in"), (2, "in")), ((0, "out"), (1, "out"), (2, "in"), (3, "in"))):
            self.assertRaises(InvalidRules, table_of, 4, [rule])
            self.assertRaises(InvalidRules, table_of, 4, [((0, "in"),), rule])

    def test_no_lot(self):
        self.assertRaises(NoLot, table_of, 1, [((0, "in"),), ((0, "out"),)])
        words = ("in", "out")
        self.assertRaises(NoLot, table_of, 2, [((0, one), (1, other)) for one in words for other in words])
        self.assertEqual(table_of(things=1, rules=[((0, "in"),)]), Table(1, [(0,)]))


class MiddlesToTest(unittest.TestCase):

    def check_steps(self, table, lot, closed_lots):
        steps = middles_to(table, lot)
        if lot in table.lots:
            self.assertEqual(steps, [])
        if lot not in closed_lots:
            self.assertIsNone(steps)
            return False
        self.assertIs(type(steps), list)
        self.assertTrue(all(type(step) is tuple for step in steps))
        self.assertLessEqual(len(steps), 2 ** table.things)
        self.assertTrue(trials.are_right_steps(table.lots, lot, steps))
        self.assertIs(judge_middles(table, lot, steps), True)
        return len(steps) > 0

    def test_all_lots(self):
        count = 0
        for things, lots in trials.all_lists_of_lots(8):
            table, closed_lots = Table(things, lots), trials.tried_closed_lots(things, lots)
            count += sum(self.check_steps(table, lot, closed_lots) for lot in trials.every_lot(things))
            self.assertEqual(table, Table(things, lots))
        self.assertGreater(count, 500)

    def test_returned_lists_are_new(self):
        table = Table(3, [(0,), (1,), (2,)])
        middles_to(table, ()).append("x")
        middles_to(table, (0,)).append("x")
        self.assertEqual(len(middles_to(table, ())), 1)
        self.assertEqual(middles_to(table, (0,)), [])

    def test_by_name(self):
        table = Table(3, [(0,), (1,), (2,)])
        steps = middles_to(lot=(), table=table)
        self.assertIs(judge_middles(value=steps, lot=(), table=table), True)
        self.assertIsNone(middles_to(table, (0, 1)))


class JudgeMiddlesTest(unittest.TestCase):

    def setUp(self):
        self.table = Table(4, [(0,), (1,), (2,), (0, 1, 3), (1, 2, 3)])

    def test_without_steps(self):
        for lot in trials.every_lot(4):
            self.assertIs(judge_middles(self.table, lot, []), lot in self.table.lots)

    def test_a_lot_of_the_table_may_have_steps(self):
        self.assertIs(judge_middles(self.table, (0,), [((0,), (0,), (1,))]), True)
        self.assertIs(judge_middles(self.table, (1,), [((0,), (0,), (1,))]), False)

    def test_right_steps(self):
        to_empty = ((0,), (1,), (2,))
        self.assertIs(judge_middles(self.table, (), [to_empty]), True)
        self.assertIs(judge_middles(self.table, (0,), [to_empty]), False)
        self.assertIs(judge_middles(self.table, (1, 3), [((0, 1, 3), (1, 2, 3), (0,))]), False)
        self.assertIs(judge_middles(self.table, (1, 3), [to_empty, ((0, 1, 3), (1, 2, 3), ())]), True)
        self.assertIs(judge_middles(self.table, (1, 3), [((0, 1, 3), (1, 2, 3), ()), to_empty]), False)
        self.assertIs(judge_middles(self.table, (), [((0, 1, 3), (1, 2, 3), ()), to_empty]), False)
        self.assertIs(judge_middles(self.table, (), [to_empty, to_empty]), True)

    def test_a_step_may_not_use_its_own_middle(self):
        self.assertIs(judge_middles(self.table, (), [((), (), (0,))]), False)

    def test_longer_than_all_lots(self):
        steps = [((0,), (1,), (2,))] + [((), (), (0,))] * 40
        self.assertIs(judge_middles(self.table, (), steps), True)
        self.assertIs(judge_middles(self.table, (0,), steps + [((0,), (0,), ())]), True)
        self.assertIs(judge_middles(self.table, (0,), steps), False)
        self.assertIs(judge_middles(Table(1, [(0,)]), (0,), [((0,), (0,), (0,))] * 60), True)

    def test_bent_steps(self):
        step = ((0,), (1,), (2,))
        for value in ([list(step)], [step[:2]], [step + ((0,),)], (step,), [[step]], step, [step, ()], [step, None],
                      [((0,), (1,), [2])], [((0,), (True,), (2,))], [((False,), (1,), (2,))], [((0,), (1,), (3,))],
                      [((0,), (1,), (4,))], [((0,), (1,), (HUGE,))], [((0,), (1,), (2, 2))], [((0,), (1,), 2)],
                      [((0,), (1,), None)], [((0,), (1,), "2")], [((0,), (1,), (2,), ())], [(0,), (1,), (2,)]):
            self.assertIs(judge_middles(self.table, (), value), False, value)

    def test_any_value(self):
        for value in (None, True, False, 0, 1, -HUGE, "", "in", (), ((),), [None], [0], [True], [""], ["abc"], [[]],
                      [()], [[[[[[]]]]]], [((), (), ())], self.table, [self.table], [(self.table,) * 3], NoLot("x"),
                      [NoLot("x")], [(None, None, None)], [([], [], [])], Table):
            self.assertIs(judge_middles(self.table, (), value), False, value)
            if value != []:
                self.assertIs(judge_middles(self.table, (0,), value), False, value)

    def test_all_single_steps(self):
        table = Table(3, [(0,), (1, 2), (2,), (0, 1)])
        lots = trials.every_lot(3)
        for step in product(lots, repeat=3):
            known = all(lot in table.lots for lot in step)
            for lot in lots:
                right = known and trials.tried_middle(step) == lot
                self.assertIs(judge_middles(table, lot, [step]), right)

    def test_the_value_stays(self):
        value = [((0,), (1,), (2,)), ((0,), (0,), ())]
        judge_middles(self.table, (0,), value)
        self.assertEqual(value, [((0,), (1,), (2,)), ((0,), (0,), ())])
        self.assertNotIn((), self.table)


if __name__ == "__main__":
    unittest.main()
