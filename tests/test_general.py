"""Point 2: which error comes first, by position and by name, and what stays unchanged."""

import inspect
import time
import unittest
from itertools import product

from tests import trials
from tests.arguments import CALLS, frozen, spoil
from tests.web_trials import AT_MOST_ONE, EXAMPLE_WEB
from thingwise import best, console, cuts, forests, live, outsides, parts, prices, tables, tasks, ties, webs, words
from thingwise.errors import (
    CannotBe, InvalidFilling, InvalidLiteral, InvalidPart, InvalidParts, InvalidPlace, InvalidRules, InvalidSide,
    InvalidThing, InvalidWeight, InvalidWords, NoLot, NotAForest, NotBest, NotClosed, TooManyTies)
from thingwise.tables import Table
from thingwise.tasks import Task
from thingwise.webs import Web


class WrongArgumentsTest(unittest.TestCase):

    def check_call(self, function, names, values, error):
        before = frozen(values)
        for by_name in (False, True):
            with self.assertRaises(error) as caught:
                if by_name:
                    # The sequence of the keywords is not that of the parameters.
                    function(**dict(reversed(list(zip(names, values)))))
                else:
                    function(*values)
            self.assertIs(type(caught.exception), error, (function, values))
        self.assertEqual(frozen(values), before)

    def test_one_wrong_argument(self):
        for function, kinds in CALLS:
            names = list(kinds)
            for at, (error, _, wrong_ones) in enumerate(kinds.values()):
                right = [kind[1] for kind in kinds.values()]
                for wrong in wrong_ones:
                    for values in product(*right[:at], [wrong], *right[at + 1:]):
                        self.check_call(function, names, list(values), error)

    def test_several_wrong_arguments(self):
        for function, kinds in CALLS:
            names = list(kinds)
            for at, (error, _, wrong_ones) in enumerate(kinds.values()):
                ahead = [kind[1][:1] for kind in list(kinds.values())[:at]]
                behind = [kind[2][:4] + kind[2][-2:] + kind[1][:1] for kind in list(kinds.values())[at + 1:]]
                for values in product(*ahead, wrong_ones[::4] + wrong_ones[-2:], *behind):
                    self.check_call(function, names, list(values), error)

    def test_errors_of_parameters_ahead_of_those_of_the_point(self):
        table = Table(3, [(0,), (1,), (2,)])
        self.assertRaises(InvalidPart, parts.clash, table, ((3, "in"),))
        self.assertRaises(InvalidPart, parts.why, table, ((3, "in"),), (3, "in"))
        self.assertRaises(InvalidLiteral, parts.why, table, (), (3, "in"))
        self.assertRaises(NotClosed, parts.why, table, ((0, "in"), (1, "in")), (2, "in"))
        self.assertRaises(InvalidRules, tables.table_of, 1, [((0, "in"),), ((0, "out"),), ((1, "in"),)])
        self.assertRaises(InvalidParts, Task, table, EXAMPLE_WEB, (((0, "in"), (1, "in")), (), ((3, "in"),)))
        self.assertRaises(NotClosed, Task, table, EXAMPLE_WEB, (((0, "in"), (1, "in")), (), ()))
        self.assertRaises(InvalidWeight, webs.with_tie, EXAMPLE_WEB, 0, 1, True)
        self.assertRaises(InvalidPlace, webs.with_tie, EXAMPLE_WEB, 0, 0, True)
        self.assertRaises(InvalidSide, cuts.least_cut, EXAMPLE_WEB, (0,), (0,))
        known = Task(AT_MOST_ONE, Web(1, []), (((0, "in"),),))
        self.assertRaises(InvalidLiteral, prices.with_known, known, 0, (2, "in"))
        self.assertRaises(CannotBe, prices.with_known, known, 0, (1, "in"))
        ring = Task(AT_MOST_ONE, Web(3, [(0, 1, 1), (1, 2, 1), (0, 2, 1)]), ((),) * 3)
        self.assertRaises(InvalidThing, forests.messages, ring, 2)
        self.assertRaises(InvalidPlace, forests.margin, ring, 3, 2)
        self.assertRaises(InvalidThing, forests.margin, ring, 2, 2)
        self.assertRaises(NotAForest, forests.margin, ring, 2, 1)
        self.assertRaises(InvalidPlace, ties.best_range, ring, 2, 2, ((), (0,), ()))
        self.assertRaises(InvalidFilling, ties.best_range, ring, 2, 1, ((), (0,), 0))
        self.assertRaises(NotBest, ties.best_range, ring, 2, 1, ((), (0,), ()))
        cross = Web(5, [(place, 4, 1) for place in range(4)])
        self.assertRaises(InvalidPlace, outsides.take_out, cross, 5)
        self.assertRaises(TooManyTies, outsides.take_out, cross, 4)
        self.assertRaises(InvalidSide, outsides.parted_outside, cross, (0, 1), EXAMPLE_WEB, (0, 1, 2))
        self.assertRaises(InvalidWords, words.read_part, ((0, "in"),))

    def test_names_of_parameters(self):
        for function, kinds in CALLS:
            self.assertEqual(list(inspect.signature(function).parameters), list(kinds))
            for values in product(*[kind[1] for kind in kinds.values()]):
                answer = self.answer(function, values, {})
                self.assertEqual(answer, self.answer(function, (), dict(zip(kinds, values))))
                self.assertEqual(answer, self.answer(function, values[:1], dict(list(zip(kinds, values))[1:])))

    def answer(self, function, values, named):
        try:
            return frozen(function(*values, **named))
        except NoLot:
            return "no lot"

    def test_interface_is_defined_in_its_files(self):
        files = (tables, parts, webs, cuts, tasks, prices, best, ties, forests, outsides, live, words, console)
        for function, _ in CALLS:
            homes = [module.__name__ for module in files if function.__module__ == module.__name__]
            self.assertEqual(homes, [function.__module__])
            self.assertIs(getattr(inspect.getmodule(function), function.__name__), function)
        for made, names in ((Table, "__init__ things lots __len__ __iter__ __contains__ __eq__"),
                            (Web, "__init__ places ties __len__ __iter__ __eq__ __add__"),
                            (Task, "__init__ table web parts __eq__"), (console.Console, "__init__ execute"),
                            (live.Board, "__init__ total web table parts __len__ __eq__ know tie undo lots_there as_task twin"),
                            (live.CalmBoard, "know tie undo twin")):
            for name in names.split():
                self.assertIn(name, vars(made))


class UnchangedTest(unittest.TestCase):

    def test_right_arguments_stay_and_results_are_new(self):
        for function, kinds in CALLS:
            for values in product(*[kind[1] for kind in kinds.values()]):
                before = frozen(values)
                answers = []
                for _ in range(2):
                    try:
                        answer = function(*values)
                    except NoLot:
                        answer = "no lot"
                    answers.append(frozen(answer))
                    spoil(answer)
                    self.assertEqual(frozen(values), before)
                self.assertEqual(answers[0], answers[1])

    def test_arguments_stay(self):
        for things, lots in trials.greater_lists_of_lots(3):
            table = Table(things, lots)
            before = frozen(table)
            steps = tables.middles_to(table, trials.every_lot(things)[3])
            arguments = frozen([steps, lots])
            tables.closed_table(table)
            tables.missing_middle(table)
            tables.judge_middles(table, (), steps)
            tables.rules_of(table).append("x")
            parts.can_be(table, ((0, "in"),))
            self.assertEqual(frozen([steps, lots]), arguments)
            self.assertEqual(frozen(table), before)

    def test_equal_results_each_time(self):
        for things, lots in trials.greater_lists_of_lots(3):
            for function in (tables.missing_middle, tables.closed_table, tables.rules_of):
                first = frozen(function(Table(things, lots)))
                self.assertEqual(frozen(function(Table(things, lots[::-1]))), first)

    def test_equal_reasons_each_time(self):
        for table in trials.closed_tables(3):
            for literal in trials.every_literal(table.things):
                part = parts.closure(table, ())
                other = Table(table.things, table.lots[::-1])
                self.assertEqual(parts.why(table, part, literal), parts.why(other, part, literal))


class QuickTest(unittest.TestCase):
    """The limit is far above what is needed (a few thousandths), so that a slow machine does not fail."""

    def setUp(self):
        self.started = time.perf_counter()

    def tearDown(self):
        self.assertLess(time.perf_counter() - self.started, 10)

    def greatest_tables(self):
        lots = trials.every_lot(6)
        yield Table(6, lots)
        yield Table(6, lots[1:])
        yield Table(6, lots[::2])
        yield Table(6, [lot for lot in lots if len(lot) < 2])
        yield Table(6, [lot for lot in lots if len(lot) in (1, 5)])
        yield Table(6, [tuple(range(size)) for size in range(7)])
        yield Table(6, [lot for lot in lots if 4 not in lot or 5 in lot])

    def test_tables(self):
        for table in self.greatest_tables():
            tables.missing_middle(table)
            closed = tables.closed_table(table)
            for lot in trials.every_lot(6):
                steps = tables.middles_to(table, lot)
                self.assertEqual(steps is not None, lot in closed)
                if steps is not None:
                    self.assertTrue(tables.judge_middles(table, lot, steps))

    def test_parts(self):
        for table in self.greatest_tables():
            closed = tables.closed_table(table)
            for part in trials.chosen_parts(6, 40):
                if parts.clash(closed, part) is None:
                    parts.why(closed, part, parts.closure(closed, part)[-1] if part else (0, "in"))


if __name__ == "__main__":
    unittest.main()
