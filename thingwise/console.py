"""A console: a board that is told by commands and answers in texts."""

from thingwise.errors import InvalidCommand, InvalidWords, NotReady
from thingwise.live import Board
from thingwise.prices import price
from thingwise.tables import check_closed
from thingwise.tasks import best_toward
from thingwise.words import (
    MOST_DIGITS, literal_in, lot_in, lot_text, number_in, read_table, read_web, write_filling, write_part)

# A command may name any thing of one digit; whether it is there is asked by the call.
TOLD_THINGS = 10

# What stands behind the word of each command that needs a board.
FORMS = {
    "know": ("place", "literal"),
    "tie": ("place", "place", "number"),
    "undo": (),
    "total": (),
    "parts": (),
    "lots": ("place",),
    "best": ("lot",),
    "price": ("place", "literal"),
}


class Console:
    """A console; it has a board as soon as it was told a table and a web."""

    def __init__(self):
        self._table = None
        self._web = None
        self._board = None

    def execute(self, command):
        """Does what the command says; its answer, a string."""
        if type(command) is not str:
            raise InvalidCommand("a command must be a string")
        word, _, rest = command.partition(" ")
        if word == "table":
            return self._take_table(_table_in(rest))
        if word == "web":
            return self._take_web(_web_in(rest))
        values = _values_in(command.split(" "))
        if self._board is None:
            raise NotReady("the console needs a table and a web first")
        action = ACTIONS[word]
        return action(self._board, values)

    def _take_table(self, table):
        """A new board with this table, if it is closed."""
        check_closed(table)
        self._table = table
        return self._renewed()

    def _take_web(self, web):
        """A new board with this web."""
        self._web = web
        return self._renewed()

    def _renewed(self):
        """A new board at which nothing is known, if both table and web were told."""
        if self._table is not None and self._web is not None:
            self._board = Board(self._table, self._web)
        return "ok"


def _table_in(text):
    """The Table that the text tells; raises InvalidCommand if it cannot be read."""
    try:
        return read_table(text)
    except InvalidWords:
        raise InvalidCommand("behind table the text of a table must stand") from None


def _web_in(text):
    """The Web that the text tells; raises InvalidCommand if it cannot be read."""
    try:
        return read_web(text)
    except InvalidWords:
        raise InvalidCommand("behind web the text of a web must stand") from None


def _values_in(words):
    """The list of what the words behind the first one tell; raises InvalidCommand if this is no command."""
    if words[0] not in FORMS or len(words) != len(FORMS[words[0]]) + 1:
        raise InvalidCommand("there is no command of this form")
    values = [_value_in(word, kind) for word, kind in zip(words[1:], FORMS[words[0]])]
    if any([value is None for value in values]):
        raise InvalidCommand("a word of the command is not of its kind")
    return values


def _value_in(word, kind):
    """What the word tells if it is of this kind, otherwise None."""
    if kind == "place":
        return number_in(word, 1)
    if kind == "literal":
        return literal_in(word, TOLD_THINGS)
    if kind == "lot":
        return lot_in(word, TOLD_THINGS)
    return number_in(word, MOST_DIGITS)


def _know(board, values):
    place, literal = values
    return str(board.know(place, literal))


def _tie(board, values):
    place, other_place, weight = values
    return str(board.tie(place, other_place, weight))


def _undo(board, _):
    board.undo()
    return "ok"


def _total(board, _):
    return str(board.total)


def _parts(board, _):
    return " ".join([write_part(part) for part in board.parts])


def _lots(board, values):
    return " ".join([lot_text(lot) for lot in board.lots_there(values[0])])


def _best(board, values):
    return write_filling(best_toward(board.as_task(), values[0]))


def _price(board, values):
    place, literal = values
    found = price(board.as_task(), place, literal)
    return "none" if found is None else str(found)


ACTIONS = {
    "know": _know,
    "tie": _tie,
    "undo": _undo,
    "total": _total,
    "parts": _parts,
    "lots": _lots,
    "best": _best,
    "price": _price,
}
