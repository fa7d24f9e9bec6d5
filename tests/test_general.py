"""Point 2: which error comes first, by position and by name, and what stays unchanged."""

import inspect
import time
import unittest
from itertools import product

from tests import trials
from thingwise import parts, tables
from thingwise.errors import (
    InvalidLiteral, InvalidLot, InvalidPart, InvalidRules, InvalidTable, InvalidThings, NoLot, NotClosed)
from thingwise.tables import Table

HUGE = 10 ** 39
TABLE = Table(2, [(), (0,), (1,)])
DEEP = [[[[[[[[[["in"]]]]]]]]]]

# What is of none of the described kinds.
NOTHING = [None, True, False, -1, -HUGE, "", "in", "0", "()", DEEP, (DEEP,), [None], (None,), [True], NoLot("x"),
           (NoLot("x"),), [TABLE], (TABLE,), Table, [0] * 300]
NO_LOTS = [(True,), (False,), (0, True), (1, 0), (0, 0), (-1,), ("0",), ("in",), ((),), ((0,),), ([0],), [], [0],
           (0, None), (0, "in"), 0, 1]
NO_LITERALS = [(), (0,), (0, "in", 0), (0, "on"), (0, "IN"), (0, b"in"), (0, None), (0, ("in",)), (True, "in"),
               (-1, "in"), ("in", 0), ("0", "in"), [0, "in"], ((0, "in"),), (0, 1), (0, True), 0, ("in", "out")]
NO_PARTS = [(0, "in"), (0,), [(0, "in")], ((0, "in"), (0, "in")), ((0, "in"), (0, "out")), ((1, "in"), (0, "in")),
            ([0, "in"],), ((True, "in"),), ((0, "in"), (True, "in")), ((0, "in"), None), ((0, "on"),), ((),), [], 0]
NO_RULES = [(), ((0, "in"),), (((0, "in"),),), [()], [(0, "in")], [[(0, "in")]], [((0, "in"), (0, "out"))], 0,
            [((1, "in"), (0, "in"))], [((0, "in"),), None], [((0, "in"),), ()], [((True, "in"),)], [((0, "on"),)],
            [((0, "in"), (1, "in"), (2, "in"))], [([0, "in"],)]]

ANY_LOT = (InvalidLot, [(), (HUGE,)], NOTHING + NO_LOTS + [TABLE])
LOT = (InvalidLot, [(), (0, 1)], NOTHING + NO_LOTS + [TABLE, (2,), (0, 2), (HUGE,)])
ANY_LITERAL = (InvalidLiteral, [(0, "in"), (HUGE, "out")], NOTHING + NO_LITERALS + [TABLE])
LITERAL = (InvalidLiteral, [(1, "out")], NOTHING + NO_LITERALS + [TABLE, (2, "in"), (HUGE, "out")])
ANY_PART = (InvalidPart, [(), ((0, "in"), (HUGE, "out"))], NOTHING + NO_PARTS + [TABLE])
PART = (InvalidPart, [(), ((0, "in"), (1, "out"))], NOTHING + NO_PARTS + [TABLE, ((2, "in"),), ((0, "in"), (HUGE, "in"))])
GIVEN_TABLE = (InvalidTable, [TABLE], NOTHING + [0, 1, (), [], [()], (2, [()]), "2 -"])
THINGS = (InvalidThings, [2], NOTHING + [0, (), (1,), [], [1], TABLE])
RULES = (InvalidRules, [[], [((0, "in"),)]], NOTHING + NO_RULES + [TABLE, [((2, "in"),)], [((0, "in"), (2, "in"))]])
LOTS = (InvalidTable, [[()], [(0, 1), (1,)]],
        NOTHING + [[], (), ((),), 0, TABLE] + [[lot] for lot in NO_LOTS + [(2,), (HUGE,)]] + [[(), lot] for lot in NO_LOTS])
VALUE = (None, [[], None, DEEP, TABLE, [((), (), ())]], [])

CALLS = [
    (Table, {"things": THINGS, "lots": LOTS}),
    (tables.middle, {"lot": ANY_LOT, "other_lot": ANY_LOT, "third_lot": ANY_LOT}),
    (tables.missing_middle, {"table": GIVEN_TABLE}),
    (tables.closed_table, {"table": GIVEN_TABLE}),
    (tables.rules_of, {"table": GIVEN_TABLE}),
    (tables.table_of, {"things": THINGS, "rules": RULES}),
    (tables.middles_to, {"table": GIVEN_TABLE, "lot": LOT}),
    (tables.judge_middles, {"table": GIVEN_TABLE, "lot": LOT, "value": VALUE}),
    (parts.contrary, {"literal": ANY_LITERAL}),
    (parts.fits, {"lot": ANY_LOT, "part": ANY_PART}),
    (parts.can_be, {"table": GIVEN_TABLE, "part": PART}),
    (parts.closure, {"table": GIVEN_TABLE, "part": PART}),
    (parts.clash, {"table": GIVEN_TABLE, "part": PART}),
    (parts.why, {"table": GIVEN_TABLE, "part": PART, "literal": LITERAL}),
]


def frozen(value):
    """A text that tells all of a value, tables included."""
    if isinstance(value, Table):
        return f"Table({value.things}, {value.lots})"
    if isinstance(value, (tuple, list)):
        return f"{value.__class__.__name__}({[frozen(item) for item in value]})"
    return repr(value)


class WrongArgumentsTest(unittest.TestCase):

    def check_call(self, function, names, values, error):
        before = frozen(values)
        for by_name in (False, True):
            with self.assertRaises(error) as caught:
                if by_name:
                    # The sequence of the keywords is not that of the parameters.
                    function(**dict(reversed(list(zip(names, values)))))
                else:
                    function(*values)
            self.assertIs(type(caught.exception), error, (function, values))
        self.assertEqual(frozen(values), before)

    def test_one_wrong_argument(self):
        for function, kinds in CALLS:
            names = list(kinds)
            for at, (error, _, wrong_ones) in enumerate(kinds.values()):
                right = [kind[1] for kind in kinds.values()]
                for wrong in wrong_ones:
                    for values in product(*right[:at], [wrong], *right[at + 1:]):
                        self.check_call(function, names, list(values), error)

    def test_several_wrong_arguments(self):
        for function, kinds in CALLS:
            names = list(kinds)
            for at, (error, _, wrong_ones) in enumerate(kinds.values()):
                ahead = [kind[1][:1] for kind in list(kinds.values())[:at]]
                behind = [kind[2][:4] + kind[2][-2:] + kind[1][:1] for kind in list(kinds.values())[at + 1:]]
                for values in product(*ahead, wrong_ones[::4] + wrong_ones[-2:], *behind):
                    self.check_call(function, names, list(values), error)

    def test_errors_of_parameters_ahead_of_those_of_the_point(self):
        table = Table(3, [(0,), (1,), (2,)])
        self.assertRaises(InvalidPart, parts.clash, table, ((3, "in"),))
        self.assertRaises(InvalidPart, parts.why, table, ((3, "in"),), (3, "in"))
        self.assertRaises(InvalidLiteral, parts.why, table, (), (3, "in"))
        self.assertRaises(NotClosed, parts.why, table, ((0, "in"), (1, "in")), (2, "in"))
        self.assertRaises(InvalidRules, tables.table_of, 1, [((0, "in"),), ((0, "out"),), ((1, "in"),)])

    def test_names_of_parameters(self):
        for function, kinds in CALLS:
            self.assertEqual(list(inspect.signature(function).parameters), list(kinds))
            for values in product(*[kind[1] for kind in kinds.values()]):
                answer = self.answer(function, values, {})
                self.assertEqual(answer, self.answer(function, (), dict(zip(kinds, values))))
                self.assertEqual(answer, self.answer(function, values[:1], dict(list(zip(kinds, values))[1:])))

    def answer(self, function, values, named):
        try:
            return frozen(function(*values, **named))
        except NoLot:
            return "no lot"

    def test_interface_is_defined_in_its_files(self):
        for function, _ in CALLS:
            self.assertIn(function.__module__, ("thingwise.tables", "thingwise.parts"))
        for name in ("__init__", "things", "lots", "__len__", "__iter__", "__contains__", "__eq__"):
            self.assertIn(name, vars(Table))


class UnchangedTest(unittest.TestCase):

    def test_arguments_stay(self):
        for things, lots in trials.greater_lists_of_lots(3):
            table = Table(things, lots)
            before = frozen(table)
            steps = tables.middles_to(table, trials.every_lot(things)[3])
            arguments = frozen([steps, lots])
            tables.closed_table(table)
            tables.missing_middle(table)
            tables.judge_middles(table, (), steps)
            tables.rules_of(table).append("x")
            parts.can_be(table, ((0, "in"),))
            self.assertEqual(frozen([steps, lots]), arguments)
            self.assertEqual(frozen(table), before)

    def test_equal_results_each_time(self):
        for things, lots in trials.greater_lists_of_lots(3):
            for function in (tables.missing_middle, tables.closed_table, tables.rules_of):
                first = frozen(function(Table(things, lots)))
                self.assertEqual(frozen(function(Table(things, lots[::-1]))), first)

    def test_equal_reasons_each_time(self):
        for table in trials.closed_tables(3):
            for literal in trials.every_literal(table.things):
                part = parts.closure(table, ())
                other = Table(table.things, table.lots[::-1])
                self.assertEqual(parts.why(table, part, literal), parts.why(other, part, literal))


class QuickTest(unittest.TestCase):
    """The limit is far above what is needed (a few thousandths), so that a slow machine does not fail."""

    def setUp(self):
        self.started = time.perf_counter()

    def tearDown(self):
        self.assertLess(time.perf_counter() - self.started, 10)

    def greatest_tables(self):
        lots = trials.every_lot(6)
        yield Table(6, lots)
        yield Table(6, lots[1:])
        yield Table(6, lots[::2])
        yield Table(6, [lot for lot in lots if len(lot) < 2])
        yield Table(6, [lot for lot in lots if len(lot) in (1, 5)])
        yield Table(6, [tuple(range(size)) for size in range(7)])
        yield Table(6, [lot for lot in lots if 4 not in lot or 5 in lot])

    def test_tables(self):
        for table in self.greatest_tables():
            tables.missing_middle(table)
            closed = tables.closed_table(table)
            for lot in trials.every_lot(6):
                steps = tables.middles_to(table, lot)
                self.assertEqual(steps is not None, lot in closed)
                if steps is not None:
                    self.assertTrue(tables.judge_middles(table, lot, steps))

    def test_parts(self):
        for table in self.greatest_tables():
            closed = tables.closed_table(table)
            for part in trials.chosen_parts(6, 40):
                if parts.clash(closed, part) is None:
                    parts.why(closed, part, parts.closure(closed, part)[-1] if part else (0, "in"))


if __name__ == "__main__":
    unittest.main()
