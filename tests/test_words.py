"""Point 23: the texts of tables, webs, parts and fillings."""

import random
import time
import unittest
from itertools import combinations

from tests import trials, web_trials
from tests.arguments import frozen
from tests.web_trials import AT_MOST_ONE, EXAMPLE_PARTS, EXAMPLE_WEB, GREAT
from thingwise.errors import InvalidFilling, InvalidPart, InvalidTable, InvalidWeb, InvalidWords, NoLot
from thingwise.tables import Table
from thingwise.webs import Web
from thingwise.words import (
    read_filling, read_part, read_table, read_web, write_filling, write_part, write_table, write_web)

HUGE = 10 ** 39
READERS = (read_table, read_web, read_part, read_filling)
# Words of all kinds, right ones and nearly right ones, to be put into texts.
BENT_WORDS = ("", "-", ".", ",", "0", "1", "5", "6", "9", "00", "01", "10", "12", "0,1", "1,0", "0,0", "0,", ",0", "0,,1", "0 ",
              "0,6", "0,10", "5,6", "-0", "+0", "-1,+0", "+0,-1", "+0,-0", "+6", "-5", "+", "++0", "+-0", "+0,", "0+", "+0,1",
              "+00", "+a", "a", "A", "0-1:1", "0-1", "0-1:", "0-1:0", "0-1:01", "1-0:1", "0-0:1", "0-9:1", "0-8:1", "0--1:1",
              "-0-1:1", "0-1:-1", "0-1:+1", "0-1:1:1", "0-1-2:1", "0:1-1", "00-1:1", "0-01:1", "0-10:1", "0-1:1,", "0-1:a",
              "0-1:999999999999", "0-1:1000000000000", "0-1:0999999999999", "1-2:3", "~", "!", "\"", "'", "#", "_", "1_0", "()",
              "(0,)", "None", "0x1", "1.0", "1e1", "+1,-2,+5", "0,1,2,3,4,5", "0,1,2,3,4,5,6")


def tried_number(word, most):
    """The number of a word with at most so many digits, None if it is none."""
    signs = "0123456789"
    right = 1 <= len(word) <= most and all(sign in signs for sign in word) and (word == "0" or word[0] != "0")
    return sum(signs.index(sign) * 10 ** k for k, sign in enumerate(reversed(word))) if right else None


def part_text(part):
    return ",".join(("+" if word == "in" else "-") + str(thing) for thing, word in part) or "."


def lot_text(lot):
    return ",".join(map(str, lot)) or "-"


PART_TEXTS = {part_text(part): part for part in trials.every_part(6)}
LOT_TEXTS = {things: {lot_text(lot): lot for lot in trials.every_lot(things)} for things in range(1, 7)}


def tried_tie(word, places):
    """The tie of a word, None if it is none: it has to be what the numbers in it are written as."""
    for low, high in combinations(range(places), 2):
        start = f"{low}-{high}:"
        if word.startswith(start):
            weight = tried_number(word[len(start):], 12)
            return (low, high, weight) if weight else None
    return None


def tried_table(text):
    """(spot, None), or (None, (things, lots)), from the words of a text."""
    words = text.split(" ")
    things = tried_number(words[0], 1)
    if things is None or not 1 <= things <= 6:
        return 0, None
    lots = []
    for spot, word in enumerate(words[1:], 1):
        lot = LOT_TEXTS[things].get(word)
        if lot is None or (lots and not lots[-1] < lot):
            return spot, None
        lots.append(lot)
    return (None, (things, lots)) if lots else (1, None)


def tried_web(text):
    words = text.split(" ")
    places = tried_number(words[0], 1)
    if places is None or not 1 <= places <= 9:
        return 0, None
    ties = []
    for spot, word in enumerate(words[1:], 1):
        tie = tried_tie(word, places)
        if tie is None or (ties and not ties[-1][:2] < tie[:2]):
            return spot, None
        ties.append(tie)
    return None, (places, ties)


def tried_whole_part(text):
    words = text.split(" ")
    if words[0] not in PART_TEXTS:
        return 0, None
    return (1, None) if len(words) > 1 else (None, PART_TEXTS[words[0]])


def tried_filling(text):
    lots = []
    for spot, word in enumerate(text.split(" ")):
        if spot == 9 or word not in LOT_TEXTS[6]:
            return spot, None
        lots.append(LOT_TEXTS[6][word])
    return None, tuple(lots)


def seen(value):
    """A value with the tables and webs in it as tuples."""
    if isinstance(value, Table):
        return value.things, value.lots
    if isinstance(value, Web):
        return value.places, value.ties
    return value


TRIALS = {read_table: tried_table, read_web: tried_web, read_part: tried_whole_part, read_filling: tried_filling}


class WordsTest(unittest.TestCase):

    def check(self, reader, text):
        """Compares with the trial; whether the text can be read."""
        spot, told = TRIALS[reader](text)
        if spot is None:
            self.assertEqual(seen(reader(text)), told, text)
            return True
        with self.assertRaises(InvalidWords, msg=text) as caught:
            reader(text)
        self.assertEqual(caught.exception.spot, spot, (reader, text))
        self.assertIs(type(caught.exception.spot), int)
        return False


class ThereAndBackTest(WordsTest):

    def test_tables(self):
        for things, lots in trials.all_lists_of_lots(10):
            table = Table(things, lots)
            text = write_table(table)
            self.assertEqual(text.split(" "), [str(things)] + [lot_text(lot) for lot in table.lots])
            self.assertEqual(read_table(text), table)
            self.assertEqual(write_table(read_table(text)), text)

    def test_webs(self):
        for web in [*web_trials.all_small_webs(), *web_trials.chosen_webs(60, 9)]:
            text = write_web(web)
            self.assertEqual(text, " ".join([str(web.places)] + [f"{tie[0]}-{tie[1]}:{tie[2]}" for tie in web.ties]))
            self.assertEqual(read_web(text), web)
            self.assertEqual(write_web(read_web(text)), text)

    def test_parts(self):
        for part in trials.every_part(6):
            text = write_part(part)
            self.assertEqual(text, part_text(part))
            self.assertEqual(read_part(text), part)

    def test_fillings(self):
        chance = random.Random(79)
        lots = trials.every_lot(6)
        fillings = [(lot,) for lot in lots] + [tuple(chance.choices(lots, k=1 + k % 9)) for k in range(100)]
        for filling in fillings:
            text = write_filling(filling)
            self.assertEqual(text.split(" "), [lot_text(lot) for lot in filling])
            self.assertEqual(read_filling(text), filling)

    def test_kinds(self):
        self.assertIs(type(read_table("1 - 0")), Table)
        self.assertIs(type(read_web("2 0-1:7")), Web)
        for value in (read_part("."), read_part("+0"), read_filling("-"), read_filling("- 0,1")):
            self.assertIs(type(value), tuple)
        for text in (write_table(AT_MOST_ONE), write_web(EXAMPLE_WEB), write_part(()), write_filling(((),))):
            self.assertIs(type(text), str)


class ExamplesTest(unittest.TestCase):

    def test_the_texts_of_the_document(self):
        self.assertEqual(write_table(Table(3, [(), (0, 1), (0,)])), "3 - 0 0,1")
        self.assertEqual(write_web(Web(4, [(3, 1, 1), (0, 3, 1)])), "4 0-3:1 1-3:1")
        self.assertEqual(write_filling(filling=((0,), (1,), (1,))), "0 1 1")
        self.assertEqual(read_table(words="3 - 0 0,1"), Table(3, [(), (0,), (0, 1)]))
        self.assertEqual(read_web(words="4 0-3:1 1-3:1"), Web(4, [(0, 3, 1), (1, 3, 1)]))
        self.assertEqual(read_filling(words="0 1 1"), ((0,), (1,), (1,)))
        self.assertEqual(write_part(part=EXAMPLE_PARTS[0]), "+0,-1")
        self.assertEqual(read_part(words="+0,-1"), EXAMPLE_PARTS[0])
        self.assertEqual((write_part(()), read_part(".")), (".", ()))
        self.assertEqual((write_filling(((), (0, 1))), read_filling("- 0,1")), ("- 0,1", ((), (0, 1))))

    def test_least_and_greatest_texts(self):
        self.assertEqual(read_table("1 -"), Table(1, [()]))
        self.assertEqual(read_table("6 0,1,2,3,4,5"), Table(6, [(0, 1, 2, 3, 4, 5)]))
        self.assertEqual(read_web("1"), Web(1, []))
        self.assertEqual(read_web("9"), Web(9, []))
        self.assertEqual(read_web("2 0-1:999999999999"), Web(2, [(0, 1, GREAT)]))
        self.assertEqual(read_filling("- 5 - 0 - - - - -"), ((), (5,), (), (0,), (), (), (), (), ()))

    def test_written_but_not_read(self):
        web = Web(12, [(9, 11, 10 ** 12), (0, 10, 1)])
        self.assertEqual(write_web(web), "12 0-10:1 9-11:1000000000000")
        self.assertEqual(write_web(Web(2, [(0, 1, GREAT), (0, 1, 1)])), "2 0-1:1000000000000")
        self.assertEqual(write_table(Table(12, [(), (6, 11)])), "12 - 6,11")
        self.assertEqual(write_part(((3, "in"), (10, "out"), (HUGE, "in"))), f"+3,-10,+{HUGE}")
        self.assertEqual(write_filling(((HUGE,), (), (6, 10))), f"{HUGE} - 6,10")
        self.assertEqual(write_filling(((),) * 12), " ".join("-" * 12))
        for reader, text, spot in ((read_web, "12 0-10:1 9-11:1000000000000", 0), (read_web, "2 0-1:1000000000000", 1),
                                   (read_table, "12 - 6,11", 0), (read_part, "+3,-10", 0), (read_filling, "- 6,10", 1),
                                   (read_filling, " ".join("-" * 12), 9)):
            with self.assertRaises(InvalidWords) as caught:
                reader(text)
            self.assertEqual(caught.exception.spot, spot)


class WrongWordsTest(WordsTest):

    def test_spots(self):
        for reader, text, spot in (
                (read_table, "", 0), (read_table, "3", 1), (read_table, "0", 0), (read_table, "7 -", 0), (read_table, "03 -", 0),
                (read_table, "3 0 -", 2), (read_table, "3 - -", 2), (read_table, "3 - 0 3", 3), (read_table, "3 - 0 1,0 x", 3),
                (read_table, " 3 -", 0), (read_table, "3  -", 1), (read_table, "3 - ", 2), (read_table, "3 ", 1),
                (read_table, "3 0,1 0", 2), (read_table, "3 - 0\n", 2), (read_table, "x", 0), (read_table, "9", 0),
                (read_web, "", 0), (read_web, "0", 0), (read_web, "10", 0), (read_web, "4 0-4:1", 1), (read_web, "4 1-0:1", 1),
                (read_web, "4 0-1:1 0-1:2", 2), (read_web, "4 0-2:1 0-1:2", 2), (read_web, "4 0-1:0", 1),
                (read_web, "4 0-1:1 1-2:01 x", 2), (read_web, "4 0-1:9999999999999", 1), (read_web, "4 ", 1),
                (read_web, "4 0-1:2 2-3", 2), (read_web, "4 0-0:1", 1), (read_web, "4 0-1:2 0-1:2", 2),
                (read_part, "", 0), (read_part, ". .", 1), (read_part, "+0 -1", 1), (read_part, "+6", 0), (read_part, "-", 0),
                (read_part, "+1,-0", 0), (read_part, "+0,-0", 0), (read_part, "+0,+0", 0), (read_part, "+0,.", 0),
                (read_part, "0", 0), (read_part, ". ", 1), (read_part, " .", 0), (read_part, "x y", 0),
                (read_filling, "", 0), (read_filling, "0 6", 1), (read_filling, "- - - - - - - - - -", 9),
                (read_filling, "- - - - - - - - - x", 9), (read_filling, "- - - x - - - - - -", 3), (read_filling, "0  1", 1),
                (read_filling, "0 ", 1), (read_filling, "0 1,0", 1), (read_filling, ".", 0), (read_filling, "0,0", 0)):
            with self.assertRaises(InvalidWords) as caught:
                reader(text)
            self.assertEqual(caught.exception.spot, spot, (reader, text))
            self.assertEqual(TRIALS[reader](text)[0], spot)

    def test_no_string(self):
        for reader in READERS:
            for wrong in (None, True, False, 0, 1, 3, HUGE, (), [], ["3", "-"], ("3 -",), (("0",),), b"3 -", AT_MOST_ONE,
                          EXAMPLE_WEB, EXAMPLE_PARTS, NoLot("3 -"), Table, [[[[[[[[[["."]]]]]]]]]]):
                with self.assertRaises(InvalidWords) as caught:
                    reader(wrong)
                self.assertEqual(caught.exception.spot, 0)

    def texts(self):
        """Right texts of all kinds."""
        for things, lots in list(trials.small_lists_of_lots())[::23] + list(trials.greater_lists_of_lots(1)):
            if len(lots) < 20:
                yield read_table, write_table(Table(things, lots))
        for web in web_trials.chosen_webs(14, 9):
            if len(web) < 15:
                yield read_web, write_web(web)
        for part in trials.chosen_parts(6, 12):
            yield read_part, write_part(part)
        chance = random.Random(83)
        for places in range(1, 10):
            yield read_filling, write_filling(tuple(chance.choices(trials.every_lot(6), k=places)))

    def test_bent_words(self):
        """Each word of a text is bent, left out, doubled, and changed with its neighbour; others are put in."""
        read = {reader: 0 for reader in READERS}
        refused = dict(read)
        for reader, text in self.texts():
            words = text.split(" ")
            self.assertTrue(self.check(reader, text))
            for at in range(len(words) + 1):
                bent = [words[:at] + words[at + 1:], words[:at] + words[at:at + 1] + words[at:],
                        words[:at] + words[at:at + 2][::-1] + words[at + 2:]]
                bent += [words[:at] + [word] + words[at + 1:] for word in BENT_WORDS]
                bent += [words[:at] + [word] + words[at:] for word in BENT_WORDS]
                for other in bent:
                    if self.check(reader, " ".join(other)):
                        read[reader] += 1
                    else:
                        refused[reader] += 1
        self.assertGreater(min(read.values()), 40)
        self.assertGreater(min(refused.values()), 1000)

    def test_bent_signs(self):
        """Each sign of a text is left out, doubled and changed for others."""
        for reader, text in list(self.texts())[::2]:
            for at in range(0, len(text) + 1, 1 + len(text) // 40):
                for sign in ("", " ", "-", "+", ",", ":", ".", "0", "1", "7", "x", text[at:at + 1] * 2):
                    self.check(reader, text[:at] + sign + text[at + 1:])

    def test_all_short_texts(self):
        signs = " -+,.:013"
        texts = [""]
        for _ in range(4):
            for text in texts:
                for reader in READERS:
                    self.check(reader, text)
            texts = [text + sign for text in texts for sign in signs]

    def test_weights(self):
        for digits in (1, 2, 11, 12, 13, 14, 40):
            for weight in ("1" * digits, "9" * digits, "0" * digits, "0" + "1" * (digits - 1), "1" + "0" * (digits - 1)):
                self.check(read_web, f"3 0-1:5 1-2:{weight}")
                self.check(read_web, f"{weight} 0-1:5")
                self.check(read_table, f"{weight} -")


class WrongValuesTest(unittest.TestCase):

    def test_wrong_values(self):
        for wrong in (None, True, 0, "", "3 -", (), [], (2, [()]), EXAMPLE_WEB, Table):
            self.assertRaises(InvalidTable, write_table, wrong)
        for wrong in (None, True, 0, "", "3", (), [], (3, []), AT_MOST_ONE, Web):
            self.assertRaises(InvalidWeb, write_web, wrong)
        for wrong in (None, True, 0, "", ".", [], (0, "in"), ((0, "on"),), ((1, "in"), (0, "in")), ((0, "in"), (0, "out")),
                      ((True, "in"),), ((-1, "in"),), ([0, "in"],), (None,), AT_MOST_ONE):
            self.assertRaises(InvalidPart, write_part, wrong)
        for wrong in (None, True, 0, "", "-", (), [], [()], (0,), ((1, 0),), ((), None), ((True,),), ((), [0]), ((-1,),),
                      (("0",),), AT_MOST_ONE):
            self.assertRaises(InvalidFilling, write_filling, wrong)

    def test_values_stay(self):
        for value, writer in ((AT_MOST_ONE, write_table), (EXAMPLE_WEB, write_web)):
            before = frozen(value)
            writer(value)
            self.assertEqual(frozen(value), before)


class LongTest(unittest.TestCase):

    def test_long_strings(self):
        started = time.perf_counter()
        for reader in READERS:
            for text in ("0," * 999, "+0," * 666, "-" * 2000, " " * 2000, "0-1:" * 500, "9" * 2000, "- " * 1000,
                         "3 " + "0-1:1 " * 333, "6 - " + "0 " * 998):
                self.assertRaises(InvalidWords, reader, text)
        table = Table(6, trials.every_lot(6))
        self.assertEqual(read_table(write_table(table)), table)
        web = Web(9, [(low, high, GREAT) for low, high in combinations(range(9), 2)])
        self.assertEqual(read_web(write_web(web)), web)
        self.assertLess(time.perf_counter() - started, 10)


if __name__ == "__main__":
    unittest.main()
