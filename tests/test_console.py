"""Point 24: the console."""

import random
import time
import unittest
from itertools import combinations, product

from tests import trials, web_trials
from tests.web_trials import AT_MOST_ONE, EXAMPLE_WEB, GREAT
from thingwise.console import Console
from thingwise.errors import (
    CannotBe, InvalidCommand, InvalidLiteral, InvalidLot, InvalidPlace, NoLot, NotClosed, NothingToUndo, NotReady, ThingError)
from thingwise.live import Board
from thingwise.prices import price
from thingwise.tables import Table
from thingwise.tasks import best_toward
from thingwise.webs import Web
from thingwise.words import write_filling, write_part, write_table, write_web

HUGE = 10 ** 39
TABLE, WEB = "table 2 - 0 1", "web 3 0-1:2 1-2:3"
ASKING = ("total", "parts", "lots 0", "lots 1", "lots 2", "best -", "best 0", "best 1", "price 1 +0", "price 1 -0", "price 0 +1",
          "price 2 -1")


def console(*commands):
    found = Console()
    for command in (TABLE, WEB) + commands:
        found.execute(command)
    return found


def lot_text(lot):
    return ",".join(map(str, lot)) or "-"


class ConsoleTest(unittest.TestCase):

    def answers(self, shown):
        """What the console tells of all that can be asked, and how many deeds can be taken back, from a like one."""
        found = []
        for command in ASKING:
            try:
                found.append(shown.execute(command))
            except ThingError as error:
                found.append(type(error).__name__)
        return found

    def refused(self, shown, command, error):
        """Tests that the console refuses the command and answers as before."""
        before = self.answers(shown)
        with self.assertRaises(error) as caught:
            shown.execute(command)
        self.assertIs(type(caught.exception), error, command)
        self.assertEqual(self.answers(shown), before)
        return caught.exception


class ExamplesTest(ConsoleTest):

    def test_the_example(self):
        shown = Console()
        for command, answer in ((TABLE, "ok"), (WEB, "ok"), ("total", "0"), ("parts", ". . ."), ("lots 1", "- 0 1"),
                                ("know 0 +0", "0"), ("know 2 +1", "4"), ("total", "4"), ("parts", "+0,-1 . -0,+1"),
                                ("lots 0", "0"), ("lots 1", "1"), ("best -", "0 1 1"), ("best 0", "0 1 1"),
                                ("price 1 +0", "2"), ("price 1 -1", "1"), ("price 1 +1", "0"), ("price 0 +1", "none"),
                                ("tie 1 2 2", "4"), ("lots 1", "- 0 1"), ("best -", "0 - 1"), ("best 0", "0 0 1"),
                                ("tie 2 0 999999999999", "2000000000002"), ("undo", "ok"), ("total", "4"), ("undo", "ok"),
                                ("lots 1", "1"), ("undo", "ok"), ("undo", "ok"), ("parts", ". . ."), ("total", "0")):
            found = shown.execute(command)
            self.assertEqual(found, answer, command)
            self.assertIs(type(found), str)
        self.refused(shown, "undo", NothingToUndo)

    def test_by_name(self):
        shown = Console()
        self.assertEqual([shown.execute(command=word) for word in (TABLE, WEB, "total")], ["ok", "ok", "0"])

    def test_consoles_do_not_share(self):
        first, second = console("know 0 +0"), Console()
        self.assertRaises(NotReady, second.execute, "total")
        second.execute(TABLE)
        self.assertRaises(NotReady, second.execute, "total")
        self.assertEqual(first.execute("parts"), "+0,-1 . .")


class TablesAndWebsTest(ConsoleTest):

    def test_not_ready(self):
        commands = ("know 0 +0", "tie 0 1 5", "tie 0 0 0", "undo", "total", "parts", "lots 0", "lots 9", "best -", "best 9",
                    "price 0 +0", "price 9 -9")
        for told in ((), (TABLE,), (WEB,), (WEB, WEB), (TABLE, "table 1 -")):
            shown = Console()
            for command in told:
                self.assertEqual(shown.execute(command), "ok")
            for command in commands:
                self.refused(shown, command, NotReady)
            for command in ("", "know", "total 1", "lots", "best", "undo undo", "price 0", "table", "web x", None, 5):
                self.refused(shown, command, InvalidCommand)

    def test_either_one_first(self):
        for told in ((TABLE, WEB), (WEB, TABLE), (WEB, TABLE, WEB), (TABLE, TABLE, WEB)):
            shown = Console()
            for command in told:
                self.assertEqual(shown.execute(command), "ok")
            self.assertEqual(self.answers(shown), self.answers(console()))

    def test_a_new_web_behind_deeds(self):
        shown = console("know 0 +0", "know 2 +1", "tie 0 1 7")
        self.assertEqual(shown.execute("web 2 0-1:5"), "ok")
        self.assertEqual((shown.execute("parts"), shown.execute("total")), (". .", "0"))
        self.refused(shown, "undo", NothingToUndo)
        self.refused(shown, "lots 2", InvalidPlace)
        # The table is as it was told; the web that was told before is gone.
        self.assertEqual(shown.execute("know 0 +0"), "0")
        self.assertEqual(shown.execute("know 1 -0"), "5")

    def test_a_new_table_behind_deeds(self):
        shown = console("know 0 +0", "tie 0 1 7", "tie 1 2 0")
        self.assertEqual(shown.execute("table 3 - 0 0,1 0,1,2"), "ok")
        self.assertEqual((shown.execute("parts"), shown.execute("lots 0")), (". . .", "- 0 0,1 0,1,2"))
        self.refused(shown, "undo", NothingToUndo)
        # The web is as its command told it, without the deeds that came behind.
        self.assertEqual([shown.execute(command) for command in ("know 0 +0", "know 1 -0")], ["0", "2"])
        self.assertEqual([shown.execute(command) for command in ("know 2 +2", "total")], ["11", "11"])

    def test_the_same_again(self):
        shown = console("know 0 +0", "tie 0 1 7")
        shown.execute(WEB)
        self.assertEqual(self.answers(shown), self.answers(console()))
        shown.execute("know 0 +0")
        shown.execute(TABLE)
        self.assertEqual(self.answers(shown), self.answers(console()))

    def test_not_closed(self):
        loose = "table 3 0 1 2"
        for told in ((), (TABLE,), (WEB,), (TABLE, WEB), (TABLE, WEB, "know 0 +0", "tie 0 1 9")):
            shown = Console()
            for command in told:
                shown.execute(command)
            self.refused(shown, loose, NotClosed)
            if told == (WEB,):
                self.refused(shown, "total", NotReady)
                shown.execute(TABLE)
            if told == (TABLE,):
                shown.execute(WEB)
            if told:
                self.assertNotIn("NotReady", self.answers(shown))
        shown = console("know 0 +0")
        self.refused(shown, loose, NotClosed)
        self.assertEqual((shown.execute("parts"), shown.execute("undo")), ("+0,-1 . .", "ok"))
        # A later web goes with the last table that was taken.
        shown.execute("web 1")
        self.assertEqual(shown.execute("lots 0"), "- 0 1")

    def test_texts_that_cannot_be_read(self):
        for command in ("table", "table ", "table 3", "table  3 -", "table 0 -", "table 7 -", "table 3 0 -", "table 3 - -",
                        "table 3 -  0", "table 3 3", "table 3 - ", "table x", "table 3 1,0", "web", "web ", "web 0", "web 10",
                        "web 3 0-3:1", "web 3 0-1:0", "web 3 0-1:01", "web 3 0-1:1 ", "web 3 0-1:1 0-1:2", "web  3",
                        "web 3 1-0:1", "web 3 0-1:1000000000000", "web +0", "tables 1 -", "Table 1 -", "WEB 3", "table3 -",
                        " table 1 -", "web 3 1-2:1 0-1:1", "web table 1 -", "table table 1 -"):
            for shown in (Console(), console("know 0 +0")):
                self.refused(shown, command, InvalidCommand)


class CommandsTest(ConsoleTest):

    def test_wrong_forms(self):
        shown = console("know 0 +0", "know 2 +1")
        for command in ("", " ", "x", "know", "know ", "know 0", "know 0 ", "know 0 +0 ", " know 0 +0", "know  0 +0",
                        "know 0 +0 +1", "know 0 +0,+1", "know 0 0", "know 0 .", "know +0 0", "know 00 +0", "know 10 +0",
                        "know 0 +00", "know 0 +10", "know -1 +0", "know a +0", "know 0 +a", "know 0 +", "know 0 -", "know 0,1 +0",
                        "Know 0 +0", "know\t0 +0", "know 0 +0\n", "tie", "tie 0", "tie 0 1", "tie 0 1 ", "tie 0 1 -1",
                        "tie 0 1 +1", "tie 0 1 01", "tie 0 1 00", "tie 0 1 1000000000000", "tie 0 1 0000000000001", "tie 0-1 5",
                        "tie 0 1 x", "tie 0 1 5 5", "tie 0-1:5", "tie 10 1 5", "tie 0 10 5", "tie 0 01 5", "tie 0 1 1.0",
                        "tie 0 1 1_0", "undo ", "undo 1", "undo undo", "Undo", "total ", "total 1", "parts ", "parts 0", "lots",
                        "lots ", "lots +0", "lots -", "lots 0 1", "lots 00", "lots 10", "lots 0 ", "best", "best ", "best .",
                        "best 1,0", "best 0,0", "best 0,", "best ,0", "best 00", "best 10", "best 0 1", "best - ", "best +0",
                        "best 0,10", "best --", "price", "price 0", "price 0 ", "price 0 0", "price +0", "price 0 +0 1",
                        "price 0 +0,-1", "price 0 +0 ", "price 10 +0", "price 0 +10", "price . +0", "quit", "help", "deeds",
                        "know total", "total total", "undo_", "execute total"):
            self.refused(shown, command, InvalidCommand)
            self.refused(Console(), command, InvalidCommand)

    def test_no_string(self):
        for wrong in (None, True, False, 0, 1, HUGE, (), [], ["total"], ("total",), b"total", AT_MOST_ONE, EXAMPLE_WEB,
                      Console(), Console, NoLot("total"), [[[[[[[[[["total"]]]]]]]]]], Board(AT_MOST_ONE, EXAMPLE_WEB)):
            self.refused(console("know 0 +0"), wrong, InvalidCommand)
            self.refused(Console(), wrong, InvalidCommand)

    def test_errors_of_the_calls(self):
        shown = console("know 0 +0")
        for command, error in (("know 3 +0", InvalidPlace), ("know 9 +9", InvalidPlace), ("know 0 +2", InvalidLiteral),
                               ("know 0 -9", InvalidLiteral), ("tie 3 0 5", InvalidPlace), ("tie 0 3 5", InvalidPlace),
                               ("tie 1 1 5", InvalidPlace), ("tie 9 9 0", InvalidPlace), ("lots 3", InvalidPlace),
                               ("lots 9", InvalidPlace), ("best 2", InvalidLot), ("best 0,1", InvalidLot),
                               ("best 0,1,2,3,4,5,6,7,8,9", InvalidLot), ("best 9", InvalidLot), ("price 3 +2", InvalidPlace),
                               ("price 0 +2", InvalidLiteral), ("price 1 -8", InvalidLiteral)):
            self.refused(shown, command, error)
        for command, place in (("know 0 +1", 0), ("know 0 -0", 0)):
            self.assertEqual(self.refused(shown, command, CannotBe).place, place)
        shown.execute("know 1 +1")
        self.assertEqual(self.refused(shown, "know 1 +0", CannotBe).place, 1)

    def test_numbers(self):
        shown = console("know 0 +0", "know 2 +1")
        for weight in ("0", "1", "10", "999999999999", "100000000000"):
            self.assertEqual(shown.execute(f"tie 0 2 {weight}"), str(4 + 2 * int(weight)))
        shown.execute("web 2 0-1:999999999999")
        self.assertEqual([shown.execute(command) for command in ("know 0 +0", "know 1 -0")], ["0", "999999999999"])
        self.assertEqual(shown.execute("price 1 +1"), "999999999999")

    def test_no_thing_is_known_there(self):
        shown = Console()
        shown.execute("table 2 1")
        shown.execute("web 2 0-1:4")
        self.assertEqual([shown.execute(command) for command in ("parts", "lots 0", "best 1", "total")],
                         ["-0,+1 -0,+1", "1", "1 1", "0"])
        self.assertEqual((shown.execute("price 0 +0"), shown.execute("price 0 +1")), ("none", "0"))
        self.refused(shown, "best -", InvalidLot)

    def test_long_commands(self):
        shown = console()
        for command in ("x" * 2000, "know " * 400, " " * 2000, "best " + "0," * 900, "tie 0 1 " + "9" * 1900, "table " * 300):
            self.refused(shown, command, InvalidCommand)


class AgainstBoardsTest(ConsoleTest):

    def command_for(self, chance, table, web):
        place, other = chance.randrange(web.places + 1), chance.randrange(web.places)
        literal = chance.choice("+-") + str(chance.randrange(table.things))
        return chance.choice((f"know {other} {literal}", f"know {other} {literal}", f"know {place} {literal}",
                              f"tie {place} {other} {chance.choice((0, 1, 3, GREAT))}", "undo", "total", "parts",
                              f"lots {place}", f"best {lot_text(chance.choice(table.lots))}", f"price {other} {literal}"))

    def answer_of(self, board, command):
        """The answer by the board itself."""
        word, *rest = command.split(" ")
        if word in ("know", "price"):
            literal = (int(rest[1][1:]), "in" if rest[1][0] == "+" else "out")
            if word == "know":
                return str(board.know(int(rest[0]), literal))
            found = price(board.as_task(), int(rest[0]), literal)
            return "none" if found is None else str(found)
        if word == "tie":
            return str(board.tie(*map(int, rest)))
        if word == "undo":
            board.undo()
            return "ok"
        if word == "total":
            return str(board.total)
        if word == "parts":
            return " ".join(map(write_part, board.parts))
        if word == "lots":
            return " ".join(map(lot_text, board.lots_there(int(rest[0]))))
        lot = () if rest[0] == "-" else tuple(map(int, rest[0].split(",")))
        return write_filling(best_toward(board.as_task(), lot))

    def test_rows_of_commands(self):
        chance = random.Random(89)
        tables = chance.sample(list(trials.closed_tables(2)), 30)
        errors = set()
        for table, web in zip(tables, web_trials.chosen_webs(30, 6)):
            shown, board = Console(), Board(table, web)
            self.assertEqual([shown.execute("table " + write_table(table)), shown.execute("web " + write_web(web))],
                             ["ok", "ok"])
            for _ in range(30):
                command = self.command_for(chance, table, web)
                try:
                    awaited = self.answer_of(board, command)
                except ThingError as error:
                    self.assertRaises(type(error), shown.execute, command)
                    errors.add(type(error))
                else:
                    self.assertEqual(shown.execute(command), awaited, command)
        self.assertEqual(errors, {CannotBe, InvalidPlace, NothingToUndo})


class LargestTest(unittest.TestCase):

    def test_the_largest(self):
        started = time.perf_counter()
        shown = Console()
        web = Web(9, [(low, high, GREAT - low) for low, high in combinations(range(9), 2)])
        shown.execute("web " + write_web(web))
        shown.execute("table " + write_table(Table(6, trials.every_lot(6))))
        for place, thing in product(range(8), range(6)):
            shown.execute(f"know {place} {'+-'[place * thing % 2]}{thing}")
        self.assertEqual(len(shown.execute("lots 8").split(" ")), 1)
        self.assertEqual(len(shown.execute("best 0,3").split(" ")), 9)
        for _ in range(48):
            shown.execute("undo")
        self.assertEqual(shown.execute("total"), "0")
        self.assertLess(time.perf_counter() - started, 20)


class InterfaceTest(unittest.TestCase):

    def test_methods_stand_in_their_class(self):
        for name in ("__init__", "execute"):
            self.assertIn(name, vars(Console))
        self.assertEqual(Console.__module__, "thingwise.console")
        self.assertRaises(TypeError, Console, 1)


if __name__ == "__main__":
    unittest.main()
