"""The calls of the interface, with right and wrong arguments of the described kinds, for the tests of point 2."""

from tests.web_trials import AT_MOST_ONE, EXAMPLE_PARTS, EXAMPLE_WEB
from thingwise import best, cuts, forests, outsides, parts, prices, tables, tasks, ties, webs, words
from thingwise.console import Console
from thingwise.errors import (
    InvalidFilling, InvalidLiteral, InvalidLot, InvalidOrder, InvalidPart, InvalidParts, InvalidPlace, InvalidPlaces,
    InvalidRules, InvalidSide, InvalidTable, InvalidTask, InvalidThing, InvalidThings, InvalidTies, InvalidWeb,
    InvalidWeight, InvalidWishes, InvalidWords, NoLot)
from thingwise.live import Board, CalmBoard
from thingwise.tables import Table
from thingwise.tasks import Task
from thingwise.webs import Web

HUGE = 10 ** 39
TABLE = AT_MOST_ONE
WEB = EXAMPLE_WEB
TASK = Task(TABLE, WEB, ((), (), EXAMPLE_PARTS[2]))
DEEP = [[[[[[[[[["in"]]]]]]]]]]

# What is of none of the described kinds.
NOTHING = [None, True, False, -1, -HUGE, "", "in", "0", "()", DEEP, (DEEP,), [None], (None,), [True], NoLot("x"),
           (NoLot("x"),), [TABLE], (TABLE,), Table, [0] * 300,
           [TASK], (WEB,), Web, Task, Board(TABLE, WEB), CalmBoard(TABLE, WEB), Console(), Board]
NO_LOTS = [(True,), (False,), (0, True), (1, 0), (0, 0), (-1,), ("0",), ("in",), ((),), ((0,),), ([0],), [], [0],
           (0, None), (0, "in"), 0, 1]
NO_LITERALS = [(), (0,), (0, "in", 0), (0, "on"), (0, "IN"), (0, b"in"), (0, None), (0, ("in",)), (True, "in"),
               (-1, "in"), ("in", 0), ("0", "in"), [0, "in"], ((0, "in"),), (0, 1), (0, True), 0, ("in", "out")]
NO_PARTS = [(0, "in"), (0,), [(0, "in")], ((0, "in"), (0, "in")), ((0, "in"), (0, "out")), ((1, "in"), (0, "in")),
            ([0, "in"],), ((True, "in"),), ((0, "in"), (True, "in")), ((0, "in"), None), ((0, "on"),), ((),), [], 0]
NO_RULES = [(), ((0, "in"),), (((0, "in"),),), [()], [(0, "in")], [[(0, "in")]], [((0, "in"), (0, "out"))], 0,
            [((1, "in"), (0, "in"))], [((0, "in"),), None], [((0, "in"),), ()], [((True, "in"),)], [((0, "on"),)],
            [((0, "in"), (1, "in"), (2, "in"))], [([0, "in"],)]]

ANY_LOT = (InvalidLot, [(), (HUGE,)], NOTHING + NO_LOTS + [TABLE])
LOT = (InvalidLot, [(), (0, 1)], NOTHING + NO_LOTS + [TABLE, (2,), (0, 2), (HUGE,)])
ANY_LITERAL = (InvalidLiteral, [(0, "in"), (HUGE, "out")], NOTHING + NO_LITERALS + [TABLE])
LITERAL = (InvalidLiteral, [(1, "out")], NOTHING + NO_LITERALS + [TABLE, (2, "in"), (HUGE, "out")])
ANY_PART = (InvalidPart, [(), ((0, "in"), (HUGE, "out"))], NOTHING + NO_PARTS + [TABLE])
PART = (InvalidPart, [(), ((0, "in"), (1, "out"))], NOTHING + NO_PARTS + [TABLE, ((2, "in"),), ((0, "in"), (HUGE, "in"))])
GIVEN_TABLE = (InvalidTable, [TABLE], NOTHING + [0, 1, (), [], [()], (2, [()]), "2 -"])
THINGS = (InvalidThings, [2], NOTHING + [0, (), (1,), [], [1], TABLE])
RULES = (InvalidRules, [[], [((0, "in"),)]], NOTHING + NO_RULES + [TABLE, [((2, "in"),)], [((0, "in"), (2, "in"))]])
LOTS = (InvalidTable, [[()], [(0, 1), (1,)]],
        NOTHING + [[], (), ((),), 0, TABLE] + [[lot] for lot in NO_LOTS + [(2,), (HUGE,)]] + [[(), lot] for lot in NO_LOTS])
VALUE = (None, [[], None, DEEP, TABLE, [((), (), ())]], [])

# Of webs and tasks: a web of three places; where `place` stands it is 1, where `must` stands it is (0,).
NO_PLACES = [3, HUGE, (0,), [0], (), "1", WEB]
NO_SIDES = [0, 1, [], [0], (1, 0), (0, 0), (3,), (0, 3), (HUGE,), (True,), (0, True), (-1,), ("0",), ((),), (None,), WEB]
NO_TIES = [(0, 1, 1), ((0, 1, 1),), [(0, 1)], [(0, 1, 1, 1)], [[0, 1, 1]], [(0, 0, 1)], [(0, 3, 1)], [(HUGE, 0, 1)],
           [(0, 1, -1)], [(0, 1, True)], [(True, 0, 1)], [(0, False, 1)], [(0, 1, None)], [("0", "1", 1)], [()], WEB, 0]
NO_ORDERS = [(), (0, 1), (0, 1, 1), (0, 1, 2, 2), (0, 1, 3), [0, 1, 2], (0, True, 2), ("0", 1, 2), (-1, 0, 1), 0, WEB]
NO_PART_TUPLES = [(), ((), ()), ((), (), (), ()), [(), (), ()], ((), (), []), ((), None, ()), ((0, "in"), (), ()), 0,
                  (((2, "in"),), (), ()), (((0, "in"), (0, "out")), (), ()), ((), ((True, "in"),), ()), TASK]
NO_WISHES = [(), ((1, (0, "in")),), (1, (0, "in")), 0, TASK] + [[wrong] for wrong in (
    None, 0, (), (1,), (0, "in"), [1, (0, "in")], (1, [0, "in"]), (1, (0, "in"), 0), (3, (0, "in")), (-1, (0, "in")),
    (True, (0, "in")), (1, (2, "in")), (1, (True, "in")), (1, (0, "on")), (HUGE, (0, "in")), (1, (HUGE, "in")), (1, 0, "in"),
    ((0, "in"), 1), ("1", (0, "in")), (1, None))] + [[(1, (0, "in")), None], [(1, (0, "in")), (1, (0, "on"))]]
NO_FREE_FILLINGS = [(), [(), (0,)], ((), []), ((), None), ((1, 0), ()), (0, 1), ((), (True,)), ((), (-1,)), "01", 0, TASK]
OTHER_TEXTS = ["3", "3 ", " 3 -", "3  -", "x", "+0 ", "-  -", "0,", "+0,", "1.0", "07", "- - - - - - - - - -"]
NO_FILLINGS = [(), ((), ()), ((), (), (), ()), [(), (), ()], ((), (), []), ((), None, ()), ((1, 0), (), ()), (0, 1, 2),
               ((), (True,), ()), ((), (-1,), ()), "012", 0, TASK]

PLACES = (InvalidPlaces, [3], NOTHING + [0, (), (3,), [], WEB])
TIES = (InvalidTies, [[], [(0, 1, 2), (2, 1, 0), (1, 0, 1)]], NOTHING + NO_TIES)
GIVEN_WEB = (InvalidWeb, [WEB], NOTHING + [0, 3, (), [], (3, []), "3 0-1:2", TABLE, TASK])
GIVEN_TASK = (InvalidTask, [TASK], NOTHING + [0, (), [], TABLE, WEB, (TABLE, WEB, ((), (), ()))])
PLACE = (InvalidPlace, [1], NOTHING + NO_PLACES)
OTHER_PLACE = (InvalidPlace, [0, 2], NOTHING + NO_PLACES + [1])
WEIGHT = (InvalidWeight, [0, 10 ** 12 - 1], NOTHING + [(), (1,), [], [1], WEB])
SIDE = (InvalidSide, [(), (0, 2)], NOTHING + NO_SIDES)
MUST = (InvalidSide, [(0,)], NOTHING + NO_SIDES)
NEVER = (InvalidSide, [(), (2,), (1, 2)], NOTHING + NO_SIDES + [(0,), (0, 1)])
ORDER = (InvalidOrder, [(0, 1, 2), (2, 0, 1)], NOTHING + NO_ORDERS)
PARTS = (InvalidParts, [((), (), ()), EXAMPLE_PARTS], NOTHING + NO_PART_TUPLES)
FILLING = (InvalidFilling, [((), (0,), (HUGE,))], NOTHING + NO_FILLINGS)
BEST_FILLING = (InvalidFilling, [((1,), (1,), (1,))], NOTHING + NO_FILLINGS)
FREE_FILLING = (InvalidFilling, [((), (HUGE,)), ((1,), (1, 2))], NOTHING + NO_FREE_FILLINGS)
OTHER_FILLING = (InvalidFilling, [((), ()), ((1,), (0, 1))], NOTHING + NO_FREE_FILLINGS + [((),), ((), (), ())])
WISHES = (InvalidWishes, [[], [(1, (0, "in")), (1, (0, "out")), (1, (0, "in"))], [(1, (1, "in"))]], [
    value for value in NOTHING if value != []] + NO_WISHES)
THING = (InvalidThing, [0, 1], NOTHING + [2, HUGE, (), (0,), [0], "1", (0, "in"), TABLE])
OUTER = (InvalidSide, [(0, 2)], NOTHING + NO_SIDES + [()])
OTHER_OUTER = (InvalidSide, [(0, 1), (1, 2)], NOTHING + NO_SIDES + [(), (0,), (0, 1, 2)])
THREE_OUTER = (InvalidSide, [(0, 1, 2)], NOTHING + NO_SIDES + [(), (1,), (0, 2)])


def texts(right, *others):
    """A string that can be read: right ones, and all of the wrong values that are not told to be right."""
    return (InvalidWords, list(right), [value for value in NOTHING + OTHER_TEXTS + [0, (), list(right), *others]
                                        if value not in right])


TABLE_TEXT = texts(["2 - 0", "1 0"], "2 0 -", "2 2", "0 -", "7 -", "2 - -", b"1 0")
WEB_TEXT = texts(["3 0-1:2 1-2:3", "3", "1"], "3 0-3:1", "3 1-0:1", "3 0-1:0", "3 0-1:1 0-1:2", "10", "3 0-1:1000000000000")
PART_TEXT = texts([".", "+0,-5"], "+6", "-", "+0,-0", "-1,+0", ". .", "0")
FILLING_TEXT = texts(["0", "- 0,5", "3"], "6", "0 6", "1,0", ".", "+0")
TIE_WEIGHT = (InvalidWeight, [1, 10 ** 12 - 1], NOTHING + [0, (), (1,), [], [1], WEB])
TOWARD = (InvalidLot, [(), (1,)], NOTHING + NO_LOTS + [TABLE, (0, 1), (2,), (HUGE,)])
KNOWN_LOTS = (InvalidLot, [[(0, 1), None], [None]],
              [value for value in NOTHING if value != [None]] + [(), ((),), (None,), 0, TABLE, [(2,)], [(), (HUGE,)],
                                                                 [False]] + [[lot] for lot in NO_LOTS])
FLOW = (None, VALUE[1] + [[(0, 1, 1), (1, 2, 1)], [(0, 1, 2)]], [])
FLOWS = (None, VALUE[1] + [[[], []], [[(0, 1, 2), (1, 2, 2)], []]], [])
FILLED = (None, VALUE[1] + [((0,), (1,), (1,)), ((0,), (0,), (1,))], [])

CALLS = [
    (Table, {"things": THINGS, "lots": LOTS}),
    (tables.middle, {"lot": ANY_LOT, "other_lot": ANY_LOT, "third_lot": ANY_LOT}),
    (tables.missing_middle, {"table": GIVEN_TABLE}),
    (tables.closed_table, {"table": GIVEN_TABLE}),
    (tables.rules_of, {"table": GIVEN_TABLE}),
    (tables.table_of, {"things": THINGS, "rules": RULES}),
    (tables.middles_to, {"table": GIVEN_TABLE, "lot": LOT}),
    (tables.judge_middles, {"table": GIVEN_TABLE, "lot": LOT, "value": VALUE}),
    (parts.contrary, {"literal": ANY_LITERAL}),
    (parts.fits, {"lot": ANY_LOT, "part": ANY_PART}),
    (parts.can_be, {"table": GIVEN_TABLE, "part": PART}),
    (parts.closure, {"table": GIVEN_TABLE, "part": PART}),
    (parts.clash, {"table": GIVEN_TABLE, "part": PART}),
    (parts.why, {"table": GIVEN_TABLE, "part": PART, "literal": LITERAL}),
    (Web, {"places": PLACES, "ties": TIES}),
    (webs.weight_of, {"web": GIVEN_WEB, "place": PLACE, "other_place": OTHER_PLACE}),
    (webs.with_tie, {"web": GIVEN_WEB, "place": PLACE, "other_place": OTHER_PLACE, "weight": WEIGHT}),
    (webs.cut_of, {"web": GIVEN_WEB, "side": SIDE}),
    (webs.cut_gaps, {"web": GIVEN_WEB, "side": SIDE, "other_side": SIDE}),
    (webs.glued, {"web": GIVEN_WEB, "place": PLACE, "other_place": OTHER_PLACE}),
    (webs.renamed, {"web": GIVEN_WEB, "order": ORDER}),
    (webs.pieces, {"web": GIVEN_WEB}),
    (webs.is_forest, {"web": GIVEN_WEB}),
    (cuts.least_cut, {"web": GIVEN_WEB, "must": MUST, "never": NEVER}),
    (cuts.least_sides, {"web": GIVEN_WEB, "must": MUST, "never": NEVER}),
    (cuts.brings, {"web": GIVEN_WEB, "must": MUST, "never": NEVER}),
    (cuts.flow, {"web": GIVEN_WEB, "must": MUST, "never": NEVER}),
    (cuts.flow_worth, {"web": GIVEN_WEB, "must": MUST, "never": NEVER, "value": FLOW}),
    (Task, {"table": GIVEN_TABLE, "web": GIVEN_WEB, "parts": PARTS}),
    (tasks.parts_of, {"things": THINGS, "lots": KNOWN_LOTS}),
    (tasks.cost, {"web": GIVEN_WEB, "filling": FILLING}),
    (tasks.fills, {"task": GIVEN_TASK, "value": FILLED}),
    (tasks.thing_cuts, {"task": GIVEN_TASK}),
    (tasks.least_total, {"task": GIVEN_TASK}),
    (tasks.best_toward, {"task": GIVEN_TASK, "toward": TOWARD}),
    (tasks.flows, {"task": GIVEN_TASK}),
    (tasks.shows_best, {"task": GIVEN_TASK, "value": FILLED, "other_value": FLOWS}),
    (tasks.tried_total, {"table": GIVEN_TABLE, "web": GIVEN_WEB, "parts": PARTS}),
    (tasks.star_against, {"table": GIVEN_TABLE}),
    (prices.thing_price, {"task": GIVEN_TASK, "place": PLACE, "literal": LITERAL}),
    (prices.price, {"task": GIVEN_TASK, "place": PLACE, "literal": LITERAL}),
    (prices.lot_prices, {"task": GIVEN_TASK, "place": PLACE}),
    (prices.lots_at, {"task": GIVEN_TASK, "place": PLACE}),
    (prices.sure, {"task": GIVEN_TASK, "place": PLACE}),
    (prices.open_places, {"task": GIVEN_TASK}),
    (prices.with_known, {"task": GIVEN_TASK, "place": PLACE, "literal": LITERAL}),
    (best.extra, {"task": GIVEN_TASK, "wishes": WISHES}),
    (best.barred, {"task": GIVEN_TASK, "wishes": WISHES}),
    (best.best_with, {"task": GIVEN_TASK, "wishes": WISHES}),
    (best.best_fillings, {"task": GIVEN_TASK}),
    (best.count_best, {"task": GIVEN_TASK}),
    (best.is_best, {"task": GIVEN_TASK, "value": FILLED}),
    (best.middle_filling, {"filling": FREE_FILLING, "other_filling": OTHER_FILLING, "third_filling": OTHER_FILLING}),
    (ties.tie_numbers, {"task": GIVEN_TASK, "place": PLACE, "other_place": OTHER_PLACE}),
    (ties.bends, {"task": GIVEN_TASK, "place": PLACE, "other_place": OTHER_PLACE}),
    (ties.total_at, {"task": GIVEN_TASK, "place": PLACE, "other_place": OTHER_PLACE, "weight": WEIGHT}),
    (ties.crossings, {"task": GIVEN_TASK, "place": PLACE, "other_place": OTHER_PLACE, "weight": TIE_WEIGHT}),
    (ties.best_range, {"task": GIVEN_TASK, "place": PLACE, "other_place": OTHER_PLACE, "filling": BEST_FILLING}),
    (forests.messages, {"task": GIVEN_TASK, "thing": THING}),
    (forests.margin, {"task": GIVEN_TASK, "place": PLACE, "thing": THING}),
    (forests.forest_total, {"task": GIVEN_TASK}),
    (outsides.outline, {"web": GIVEN_WEB, "outer": OUTER}),
    (outsides.parted_outside, {"web": GIVEN_WEB, "outer": OUTER, "other_web": GIVEN_WEB, "other_outer": OTHER_OUTER}),
    (outsides.star_of, {"web": GIVEN_WEB, "outer": THREE_OUTER}),
    (outsides.take_out, {"web": GIVEN_WEB, "place": PLACE}),
    (outsides.shrunk, {"web": GIVEN_WEB, "outer": OUTER}),
    (Board, {"table": GIVEN_TABLE, "web": GIVEN_WEB}),
    (CalmBoard, {"table": GIVEN_TABLE, "web": GIVEN_WEB}),
    (words.write_table, {"table": GIVEN_TABLE}),
    (words.write_web, {"web": GIVEN_WEB}),
    (words.write_part, {"part": ANY_PART}),
    (words.write_filling, {"filling": FREE_FILLING}),
    (words.read_table, {"words": TABLE_TEXT}),
    (words.read_web, {"words": WEB_TEXT}),
    (words.read_part, {"words": PART_TEXT}),
    (words.read_filling, {"words": FILLING_TEXT}),
]


def frozen(value):
    """A text that tells all of a value, objects of the package included."""
    if isinstance(value, Table):
        return f"Table({value.things}, {value.lots})"
    if isinstance(value, Web):
        return f"Web({value.places}, {value.ties})"
    if isinstance(value, Task):
        return f"Task({frozen(value.table)}, {frozen(value.web)}, {value.parts})"
    if isinstance(value, Board):
        return f"{value.__class__.__name__}({len(value)}, {frozen(value.as_task())})"
    if isinstance(value, (tuple, list)):
        return f"{value.__class__.__name__}({[frozen(item) for item in value]})"
    return repr(value)


def spoil(value):
    """Changes all lists in a value."""
    if isinstance(value, (tuple, list)):
        for item in value:
            spoil(item)
    if isinstance(value, list):
        value.append("spoiled")
