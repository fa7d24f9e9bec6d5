"""The ways of the program to the same answer agree: tasks, prices, best fillings, ties, forests, boards, the console."""

import unittest
from itertools import combinations

from tests import trials, web_trials
from thingwise.best import barred, best_fillings, best_with, count_best, extra, is_best
from thingwise.console import Console
from thingwise.cuts import flow_worth, least_cut
from thingwise.forests import forest_total, margin
from thingwise.live import Board, CalmBoard
from thingwise.outsides import outline, shrunk
from thingwise.prices import lot_prices, lots_at, open_places, price, sure, thing_price, with_known
from thingwise.tasks import (
    Task, best_toward, cost, fills, flows, least_total, must_and_never, shows_best, thing_cuts, tried_total)
from thingwise.ties import best_range, crossings, total_at
from thingwise.webs import is_forest, weight_of
from thingwise.words import read_filling, read_part, write_filling, write_part, write_table, write_web


def some_tasks():
    """(table, web, parts, the Task), also with forests and with many best fillings."""
    chosen = [*web_trials.chosen_tasks(60, 300), *web_trials.open_tasks(14, 300)]
    chosen += [row for row in web_trials.chosen_forest_tasks(40, 6) if web_trials.count_fillings(row[0], row[2]) < 300]
    for table, web, parts in chosen:
        yield table, web, parts, Task(table, web, parts)


def literal_text(literal):
    return ("+" if literal[1] == "in" else "-") + str(literal[0])


def board_of(made, task):
    """A board to which all literals of the task were told."""
    board = made(task.table, task.web)
    for place, part in enumerate(task.parts):
        for literal in part:
            board.know(place, literal)
    return board


def console_of(task):
    """A console to which all literals of the task were told."""
    console = Console()
    console.execute("table " + write_table(task.table))
    console.execute("web " + write_web(task.web))
    for place, part in enumerate(task.parts):
        for literal in part:
            console.execute(f"know {place} {literal_text(literal)}")
    return console


class AgreeTest(unittest.TestCase):

    def test_totals(self):
        forests = 0
        for table, web, parts, task in some_tasks():
            total = least_total(task)
            board = board_of(Board, task)
            found = [tried_total(table, web, parts), sum(told[0] for told in thing_cuts(task)), board.total,
                     least_total(board.as_task()), int(console_of(task).execute("total"))]
            found += [cost(web, best_toward(task, toward)) for toward in table]
            found += [total_at(task, *ends, weight_of(web, *ends)) for ends in combinations(range(web.places), 2)]
            found.append(sum(flow_worth(web, *must_and_never(task.parts, thing), rows)
                             for thing, rows in enumerate(flows(task))))
            if is_forest(web):
                forests += 1
                found.append(forest_total(task))
            self.assertEqual(set(found), {total})
            self.assertEqual(board.as_task(), task)
        self.assertGreater(forests, 30)

    def test_prices(self):
        for table, web, _, task in some_tasks():
            console, board = console_of(task), board_of(Board, task)
            for place in range(web.places):
                for literal in trials.every_literal(table.things):
                    found = price(task, place, literal)
                    self.assertEqual(extra(task, [(place, literal)]), found)
                    told = console.execute(f"price {place} {literal_text(literal)}")
                    self.assertEqual(told, "none" if found is None else str(found))
                    by_lots = [more for more, lot in lot_prices(task, place) if trials.does_meet(lot, literal)]
                    self.assertEqual(min(by_lots, default=None), found)
                    if found is not None:
                        self.assertEqual(least_total(with_known(task, place, literal)) - least_total(task), found)
                        self.assertEqual(board.know(place, literal) - least_total(task), found)
                        board.undo()
                    if is_forest(web) and margin(task, place, literal[0]) is not None:
                        there = margin(task, place, literal[0])
                        self.assertEqual(thing_price(task, place, literal), max(0, -there if literal[1] == "in" else there))

    def test_best_fillings(self):
        for table, web, _, task in some_tasks():
            best = best_fillings(task)
            self.assertEqual(count_best(task), len(best))
            console, board = console_of(task), board_of(Board, task)
            for filling in best:
                self.assertTrue(fills(task, filling) and is_best(task, filling))
                self.assertEqual(cost(web, filling), least_total(task))
                self.assertTrue(shows_best(task, filling, flows(task)))
            for place in range(web.places):
                lots = sorted({filling[place] for filling in best})
                self.assertEqual([lots_at(task, place), board.lots_there(place)], [lots, lots])
                self.assertEqual(console.execute(f"lots {place}"), " ".join(write_filling((lot,)) for lot in lots))
                self.assertEqual(place in open_places(task), len(lots) > 1)
            for toward in table:
                filling = best_toward(task, toward)
                self.assertIn(filling, best)
                self.assertEqual(read_filling(console.execute("best " + write_filling((toward,)))), filling)
            self.assertIn(best_with(task, []), best)

    def test_sure_literals(self):
        for table, web, _, task in some_tasks():
            best = best_fillings(task)
            for place in range(web.places):
                for literal in trials.every_literal(table.things):
                    other = (literal[0], "out" if literal[1] == "in" else "in")
                    told = literal in sure(task, place)
                    self.assertIs(told, all(trials.does_meet(filling[place], literal) for filling in best))
                    self.assertIs(told, best_with(task, [(place, other)]) is None)
                    self.assertIs(told, barred(task, [(place, other)]) == ((place, other),))
                    self.assertIs(told, price(task, place, other) != 0)

    def test_ties(self):
        for table, web, _, task in some_tasks():
            best = best_fillings(task)[:40]
            for ends in list(combinations(range(web.places), 2))[:5]:
                weight = weight_of(web, *ends)
                apart = [web_trials.things_at_one_end(filling, *ends) for filling in best_fillings(task)]
                if weight > 0:
                    self.assertEqual(crossings(task, *ends, weight), (min(apart), max(apart)))
                for filling in best:
                    least, greatest = best_range(task, *ends, filling)
                    self.assertTrue(least <= weight and (greatest is None or weight <= greatest))

    def test_parts(self):
        for _, _, _, task in some_tasks():
            told = console_of(task).execute("parts")
            self.assertEqual(told, " ".join(write_part(part) for part in task.parts))
            self.assertEqual(tuple(read_part(word) for word in told.split(" ")), task.parts)

    def test_calm_boards(self):
        """A calm board takes just the deeds that a plain one would do at the same total."""
        for table, web, _, task in some_tasks():
            calm, plain = CalmBoard(table, web), Board(table, web)
            for place, part in enumerate(task.parts):
                for literal in part:
                    twin = plain.twin()
                    if twin.know(place, literal) == plain.total:
                        self.assertEqual(calm.know(place, literal), plain.know(place, literal))
            self.assertTrue(calm == plain)
            self.assertEqual((calm.total, len(calm)), (plain.total, len(plain)))

    def test_cuts_of_things_and_outlines(self):
        """The cuts of a thing are entries of the outline for the places at which it is known."""
        for table, web, _, task in some_tasks():
            for thing in range(table.things):
                must, never = must_and_never(task.parts, thing)
                outer = tuple(sorted(must + never))
                if outer:
                    index = sum(1 << k for k, place in enumerate(outer) if place in must)
                    self.assertEqual(outline(web, outer)[index], thing_cuts(task)[thing][0])
                    small, factor, left = shrunk(web, outer)
                    there = [tuple(left.index(place) for place in side) for side in (must, never)]
                    self.assertEqual(least_cut(small, *there)[0], factor * thing_cuts(task)[thing][0])


if __name__ == "__main__":
    unittest.main()
