"""Point 22: boards that stand as their deeds have left them."""

import inspect
import random
import time
import unittest
from itertools import combinations

from tests import trials, web_trials
from tests.arguments import LITERAL, OTHER_PLACE, PLACE, WEIGHT, frozen
from tests.web_trials import AT_MOST_ONE, EXAMPLE_PARTS, EXAMPLE_WEB, GREAT
from thingwise.errors import (
    CannotBe, InvalidLiteral, InvalidPlace, InvalidTable, InvalidWeb, InvalidWeight, NoLot, NotClosed, NothingToUndo,
    Refused)
from thingwise.live import Board, CalmBoard
from thingwise.prices import lots_at
from thingwise.tables import Table
from thingwise.tasks import Task, least_total
from thingwise.webs import Web, weight_of, with_tie

LOOSE = Table(3, [(0,), (1,), (2,)])
METHODS = {
    "know": {"place": PLACE, "literal": LITERAL},
    "tie": {"place": PLACE, "other_place": OTHER_PLACE, "weight": WEIGHT},
    "lots_there": {"place": PLACE},
}


def example(made=Board):
    board = made(AT_MOST_ONE, EXAMPLE_WEB)
    board.know(2, (1, "in"))
    return board


def state_of(board):
    """All that can be seen of a board."""
    lots = [board.lots_there(place) for place in range(board.web.places)]
    return frozen([len(board), board.total, board.table, board.web, board.parts, board.as_task(), lots])


class Follower:
    """What a board should be, from the tables, webs and parts behind each deed."""

    def __init__(self, table, web):
        self.table = table
        self.states = [(web, ((),) * web.places)]

    def tried_task(self):
        web, parts = self.states[-1]
        return Task(self.table, web, parts)

    def tried_total(self):
        web, parts = self.states[-1]
        between = [web_trials.tried_between(web_trials.tried_closures(self.table, parts), thing)
                   for thing in range(self.table.things)]
        return sum(web_trials.tried_least_sides(web, must, never)[0] for must, never in between)

    def know(self, place, literal):
        web, parts = self.states[-1]
        longer = tuple(sorted({*parts[place], literal}))
        things = [thing for thing, _ in longer]
        if len(set(things)) < len(things) or trials.tried_closure(self.table.things, self.table.lots, longer) is None:
            return False
        self.states.append((web, parts[:place] + (longer,) + parts[place + 1:]))
        return True

    def tie(self, place, other_place, weight):
        web, parts = self.states[-1]
        self.states.append((web_trials.with_weight(web, place, other_place, weight), parts))


def chosen_deeds(chance, table, web, count):
    """Deeds and undos, as tuples of a word and arguments."""
    for _ in range(count):
        place = chance.randrange(web.places)
        word = chance.choice(("know", "know", "know", "tie", "undo") if web.places > 1 else ("know", "undo"))
        if word == "know":
            yield word, place, chance.choice(trials.every_literal(table.things))
        elif word == "tie":
            other = chance.choice([other for other in range(web.places) if other != place])
            yield word, place, other, chance.choice((0, 1, 2, 5, GREAT))
        else:
            yield (word,)


class DeedsTest(unittest.TestCase):

    def setUp(self):
        self.chance = random.Random(73)

    def cases(self, count):
        tables = self.chance.sample(list(trials.closed_tables(2)), count)
        for table, web in zip(tables, web_trials.chosen_webs(count, 6)):
            yield table, web

    def follow(self, board, follower, deed):
        """Does the deed at the board and at what follows it; the word of what came of it."""
        before, total = state_of(board), board.total
        if deed[0] == "undo":
            if len(follower.states) == 1:
                self.assertRaises(NothingToUndo, board.undo)
                return "no undo"
            follower.states.pop()
            self.assertIsNone(board.undo())
            return "undo"
        if deed[0] == "know" and not follower.know(*deed[1:]):
            with self.assertRaises(CannotBe) as caught:
                board.know(*deed[1:])
            self.assertEqual((caught.exception.place, state_of(board)), (deed[1], before))
            return "cannot be"
        if deed[0] == "tie":
            follower.tie(*deed[1:])
        tried = follower.tried_total()
        if isinstance(board, CalmBoard) and tried > total:
            with self.assertRaises(Refused) as caught:
                getattr(board, deed[0])(*deed[1:])
            self.assertEqual((caught.exception.amount, state_of(board)), (tried, before))
            follower.states.pop()
            return "refused"
        self.assertEqual(getattr(board, deed[0])(*deed[1:]), tried)
        return deed[0]

    def test_rows_of_deeds(self):
        for made, awaited in ((Board, {"know", "tie", "undo", "no undo", "cannot be"}),
                              (CalmBoard, {"know", "tie", "undo", "no undo", "cannot be", "refused"})):
            seen = set()
            for table, web in self.cases(40):
                board, follower = made(table, web), Follower(table, web)
                for deed in chosen_deeds(self.chance, table, web, 25):
                    seen.add(self.follow(board, follower, deed))
                    task = follower.tried_task()
                    self.assertEqual(board.as_task(), task)
                    self.assertEqual((board.table, board.web, board.parts), (task.table, task.web, task.parts))
                    self.assertEqual((board.total, len(board)), (follower.tried_total(), len(follower.states) - 1))
                place = self.chance.randrange(web.places)
                self.assertEqual(board.lots_there(place), lots_at(board.as_task(), place))
            self.assertEqual(seen, awaited)

    def test_taken_back_to_the_first_one(self):
        for made in (Board, CalmBoard):
            for table, web in self.cases(15):
                board, states = made(table, web), []
                for deed in chosen_deeds(self.chance, table, web, 20):
                    before = state_of(board)
                    try:
                        if deed[0] != "undo":
                            getattr(board, deed[0])(*deed[1:])
                            states.append(before)
                    except (CannotBe, Refused):
                        self.assertEqual(state_of(board), before)
                for state in reversed(states):
                    self.assertIsNone(board.undo())
                    self.assertEqual(state_of(board), state)
                for _ in range(2):
                    self.assertRaises(NothingToUndo, board.undo)
                    self.assertEqual(state_of(board), state_of(made(table, web)))

    def test_twins(self):
        for made in (Board, CalmBoard):
            for table, web in self.cases(15):
                board = made(table, web)
                self.do_all(board, chosen_deeds(self.chance, table, web, 8))
                twin, length, state = board.twin(), len(board), state_of(board)
                self.assertIs(type(twin), made)
                self.assertTrue(twin == board and board == twin)
                self.assertEqual(state_of(twin), state)
                self.do_all(twin, chosen_deeds(self.chance, table, web, 12))
                self.assertEqual(state_of(board), state)
                other = board.twin()
                for _ in range(length):
                    board.undo()
                    other.undo()
                    self.assertEqual(state_of(board), state_of(other))
                self.assertRaises(NothingToUndo, other.undo)

    def do_all(self, board, deeds):
        for deed in deeds:
            try:
                getattr(board, deed[0])(*deed[1:])
            except (CannotBe, Refused, NothingToUndo):
                pass


class BoardTest(unittest.TestCase):

    def test_nothing_is_known(self):
        for made in (Board, CalmBoard):
            for table in (AT_MOST_ONE, Table(2, [(1,), (0, 1)]), Table(1, [(0,)])):
                board = made(web=EXAMPLE_WEB, table=table)
                self.assertEqual((board.total, len(board)), (0, 0))
                self.assertEqual((board.table, board.web), (table, EXAMPLE_WEB))
                self.assertEqual(board.parts, web_trials.tried_closures(table, ((), (), ())))
                self.assertEqual(board.as_task(), Task(table, EXAMPLE_WEB, ((), (), ())))
                self.assertEqual(board.lots_there(1), table.lots)
                self.assertRaises(NothingToUndo, board.undo)

    def test_the_example(self):
        board = Board(AT_MOST_ONE, EXAMPLE_WEB)
        self.assertEqual(board.know(0, (0, "in")), 0)
        self.assertEqual(board.know(literal=(1, "in"), place=2), 4)
        self.assertEqual((board.total, len(board), board.parts), (4, 2, EXAMPLE_PARTS))
        self.assertIs(type(board.parts), tuple)
        self.assertEqual(board.lots_there(place=1), [(1,)])
        self.assertEqual(board.tie(2, 1, 2), 4)
        self.assertEqual(board.lots_there(1), [(), (0,), (1,)])
        self.assertEqual(board.tie(weight=0, other_place=2, place=1), 0)
        self.assertEqual(board.web, Web(3, [(0, 1, 2)]))
        self.assertIsNone(board.undo())
        self.assertEqual((board.total, len(board), weight_of(board.web, 1, 2)), (4, 3, 2))

    def test_totals_behind_undo(self):
        board = Board(AT_MOST_ONE, Web(2, [(0, 1, 3)]))
        found = [board.know(0, (0, "in")), board.know(1, (1, "in")), board.tie(0, 1, 2), board.tie(0, 1, 0)]
        self.assertEqual(found, [0, 6, 4, 0])
        for total in (4, 6, 0, 0):
            board.undo()
            self.assertEqual(board.total, total)

    def test_deeds_that_change_nothing(self):
        for made in (Board, CalmBoard):
            board = example(made)
            for count, (place, literal) in enumerate([(2, (1, "in")), (2, (0, "out")), (2, (1, "in"))]):
                self.assertEqual(board.know(place, literal), 0)
                self.assertEqual((len(board), board.parts), (count + 2, ((), (), EXAMPLE_PARTS[2])))
            self.assertEqual(board.tie(1, 0, 2), 0)
            self.assertEqual((len(board), board.web), (5, EXAMPLE_WEB))
            board.undo()
            self.assertEqual((len(board), board == example(made)), (4, True))

    def test_equal(self):
        board, other = example(), example(CalmBoard)
        self.assertTrue(board == other and other == board and board == example())
        self.assertFalse(board != other)
        # The deeds do not count, only what has come of them.
        by_another_way = Board(AT_MOST_ONE, Web(3, []))
        for ties in EXAMPLE_WEB.ties:
            by_another_way.tie(*ties)
        by_another_way.know(2, (0, "out"))
        self.assertFalse(by_another_way == board)
        by_another_way.know(2, (1, "in"))
        self.assertTrue(by_another_way == board)
        unlike = [Board(AT_MOST_ONE, EXAMPLE_WEB), example(), example(), Board(Table(2, [(), (1,)]), EXAMPLE_WEB),
                  Board(AT_MOST_ONE, Web(2, [])), board.as_task(), AT_MOST_ONE, EXAMPLE_WEB, None, True, 0, "", (), [],
                  (AT_MOST_ONE, EXAMPLE_WEB), NoLot("x"), Board]
        unlike[1].know(1, (0, "out"))
        unlike[2].tie(0, 1, 3)
        for value in unlike:
            self.assertIs(board == value, False)
            self.assertIs(value == board, False)
            self.assertIs(other == value, False)
            self.assertIs(board != value, True)

    def test_the_task_stays(self):
        board = example()
        task = board.as_task()
        before = frozen(task)
        board.know(1, (0, "in"))
        board.tie(0, 1, 7)
        self.assertEqual(frozen(task), before)
        self.assertEqual(board.total, least_total(board.as_task()))

    def test_lists_are_new(self):
        board = example()
        for _ in range(2):
            self.assertEqual(board.lots_there(1), [(1,)])
            board.lots_there(1).append("x")
        board.web.ties.append("x")
        board.table.lots.append("x")
        self.assertEqual(state_of(board), state_of(example()))

    def test_properties_cannot_be_assigned(self):
        for made in (Board, CalmBoard):
            for field in ("total", "web", "table", "parts"):
                with self.assertRaises(AttributeError):
                    setattr(example(made), field, None)

    def test_one_place(self):
        board = Board(AT_MOST_ONE, Web(1, []))
        self.assertEqual(board.know(0, (0, "in")), 0)
        self.assertRaises(InvalidPlace, board.tie, 0, 0, 1)
        self.assertRaises(InvalidPlace, board.tie, 0, 1, 1)
        with self.assertRaises(CannotBe) as caught:
            board.know(0, (1, "in"))
        self.assertEqual((caught.exception.place, len(board), board.lots_there(0)), (0, 1, [(0,)]))

    def test_methods_stand_in_their_class(self):
        for name in ("__init__ total web table parts __len__ __eq__ know tie undo lots_there as_task twin").split():
            self.assertIn(name, vars(Board))
        for name in ("know", "tie", "undo", "twin"):
            self.assertIn(name, vars(CalmBoard))
        self.assertTrue(issubclass(CalmBoard, Board))
        self.assertEqual({Board.__module__, CalmBoard.__module__}, {"thingwise.live"})


class CalmBoardTest(unittest.TestCase):

    def refused(self, board, deed, *values):
        before = state_of(board)
        with self.assertRaises(Refused) as caught:
            deed(*values)
        self.assertEqual(state_of(board), before)
        return caught.exception.amount

    def test_refuses_what_would_cost_more(self):
        board = CalmBoard(AT_MOST_ONE, EXAMPLE_WEB)
        board.know(0, (0, "in"))
        self.assertEqual(self.refused(board, board.know, 2, (1, "in")), 4)
        self.assertEqual(self.refused(board, board.know, 1, (0, "out")), 2)
        self.assertEqual(board.know(1, (0, "in")), 0)
        self.assertEqual(board.tie(0, 1, GREAT), 0)
        self.assertEqual(self.refused(board, board.know, 2, (1, "in")), 6)
        self.assertEqual(board.tie(1, 2, 0), 0)
        self.assertEqual(board.know(2, (1, "in")), 0)
        self.assertEqual(self.refused(board, board.tie, 2, 1, 5), 10)
        self.assertEqual(self.refused(board, board.tie, 2, 0, 1), 2)
        self.assertEqual(len(board), 5)

    def test_undo_is_never_refused(self):
        board = CalmBoard(AT_MOST_ONE, EXAMPLE_WEB)
        board.tie(0, 1, 0)
        board.know(0, (0, "in"))
        board.know(2, (1, "in"))
        for left in (2, 1, 0):
            self.assertIsNone(board.undo())
            self.assertEqual((board.total, len(board)), (0, left))
        self.assertEqual(board.web, EXAMPLE_WEB)
        self.assertRaises(NothingToUndo, board.undo)

    def test_other_errors_come_first(self):
        board = CalmBoard(AT_MOST_ONE, EXAMPLE_WEB)
        board.know(0, (0, "in"))
        for place, literal, error in ((3, (1, "in"), InvalidPlace), (2, (2, "in"), InvalidLiteral), (0, (1, "in"), CannotBe)):
            self.assertRaises(error, board.know, place, literal)
        for values, error in (((3, 3, True), InvalidPlace), ((0, 0, True), InvalidPlace), ((0, 1, True), InvalidWeight)):
            self.assertRaises(error, board.tie, *values)


class WrongArgumentsTest(unittest.TestCase):

    def test_boards(self):
        for made in (Board, CalmBoard):
            for wrong in (None, True, 2, "", (), [()], EXAMPLE_WEB, example(), Table):
                self.assertRaises(InvalidTable, made, wrong, wrong)
                self.assertRaises(InvalidTable, made, wrong, EXAMPLE_WEB)
            for wrong in (None, True, 3, "", (), [], (3, []), AT_MOST_ONE, example(), Web):
                self.assertRaises(InvalidWeb, made, LOOSE, wrong)
            self.assertRaises(NotClosed, made, LOOSE, EXAMPLE_WEB)

    def test_methods(self):
        for made in (Board, CalmBoard):
            for name, kinds in METHODS.items():
                board = example(made)
                before, method = state_of(board), getattr(board, name)
                self.assertEqual(list(inspect.signature(method).parameters), list(kinds))
                for at, (error, _, wrong_ones) in enumerate(kinds.values()):
                    right = [kind[1][0] for kind in kinds.values()]
                    last_wrong = [kind[2][-1] for kind in kinds.values()]
                    for wrong in wrong_ones:
                        for behind in (right, last_wrong):
                            values = right[:at] + [wrong] + behind[at + 1:]
                            frozen_values = frozen(values)
                            self.assertRaises(error, method, *values)
                            self.assertRaises(error, method, **dict(zip(reversed(list(kinds)), reversed(values))))
                            self.assertEqual(frozen(values), frozen_values)
                self.assertEqual(state_of(board), before)


class LargestTest(unittest.TestCase):

    def test_sixty_deeds(self):
        started = time.perf_counter()
        lots = trials.every_lot(6)
        web = Web(9, [(low, high, GREAT) for low, high in combinations(range(9), 2)])
        board, states = Board(Table(6, lots), web), []
        deeds = [("know", place, (thing, ("in", "out")[(place + thing) % 2])) for place in range(8) for thing in range(6)]
        deeds += [("tie", 8, place, place) for place in range(8)] + [("tie", 0, 1, 0)] * 4
        for deed in deeds:
            states.append((board.total, board.parts, board.web))
            total = getattr(board, deed[0])(*deed[1:])
            self.assertEqual(total, board.total)
        self.assertEqual(len(board), 60)
        self.assertEqual(board.total, least_total(board.as_task()))
        twin = board.twin()
        for state in reversed(states):
            board.undo()
            self.assertEqual((board.total, board.parts, board.web), state)
        self.assertEqual(len(twin), 60)
        self.assertEqual(with_tie(twin.web, 0, 1, 5), with_tie(twin.as_task().web, 1, 0, 5))
        self.assertLess(time.perf_counter() - started, 20)


if __name__ == "__main__":
    unittest.main()
