"""The texts of tables, webs, parts and fillings, written and read.

What reads a single word gives None if the word cannot stand there.
"""

from thingwise.checks import check_free_filling, check_part, is_ascending
from thingwise.errors import InvalidWords
from thingwise.tables import Table, check_table
from thingwise.webs import Web, check_web

DIGITS = "0123456789"
MOST_THINGS = 6
MOST_PLACES = 9
MOST_DIGITS = 12


def write_table(table):
    """The text of the table."""
    check_table(table)
    return " ".join([str(table.things)] + [lot_text(lot) for lot in table])


def write_web(web):
    """The text of the web."""
    check_web(web)
    return " ".join([str(web.places)] + [f"{low}-{high}:{weight}" for low, high, weight in web])


def write_part(part):
    """The text of the part."""
    check_part(part, None)
    if len(part) == 0:
        return "."
    return ",".join([f"+{thing}" if word == "in" else f"-{thing}" for thing, word in part])


def write_filling(filling):
    """The text of the filling."""
    check_free_filling(filling)
    return " ".join([lot_text(lot) for lot in filling])


def lot_text(lot):
    """The word for the lot."""
    return ",".join([str(thing) for thing in lot]) if len(lot) > 0 else "-"


def read_table(words):
    """The Table that the words tell."""
    told = _split(words)
    things = _count_in(told[0], MOST_THINGS)
    lots = [lot_in(word, things) for word in told[1:]]
    _check_row(lots)
    if len(lots) == 0:
        raise InvalidWords(1)
    return Table(things, lots)


def read_web(words):
    """The Web that the words tell."""
    told = _split(words)
    places = _count_in(told[0], MOST_PLACES)
    ties = [_tie_in(word, places) for word in told[1:]]
    # There is at most one tie between two places, so both places have to ascend, whatever the weights do.
    _check_row([None if tie is None else tie[:2] for tie in ties])
    return Web(places, ties)


def read_part(words):
    """The part that the words tell."""
    told = _split(words)
    part = _part_in(told[0], MOST_THINGS)
    if part is None:
        raise InvalidWords(0)
    if len(told) > 1:
        raise InvalidWords(1)
    return part


def read_filling(words):
    """The filling that the words tell."""
    lots = [lot_in(word, MOST_THINGS) for word in _split(words)]
    for spot, lot in enumerate(lots):
        if lot is None or spot == MOST_PLACES:
            raise InvalidWords(spot)
    return tuple(lots)


def number_in(word, most_digits):
    """The number that the word writes with at most so many digits."""
    if len(word) == 0 or len(word) > most_digits:
        return None
    if not all([sign in DIGITS for sign in word]) or (word[0] == "0" and len(word) > 1):
        return None
    return int(word)


def lot_in(word, things):
    """The lot of so many things that the word writes."""
    if word == "-":
        return ()
    lot = [_thing_in(one, things) for one in word.split(",")]
    if any([thing is None for thing in lot]) or not is_ascending(lot):
        return None
    return tuple(lot)


def literal_in(word, things):
    """The literal of so many things that the word writes."""
    if word[:1] not in ("+", "-"):
        return None
    thing = _thing_in(word[1:], things)
    if thing is None:
        return None
    return (thing, "in" if word[0] == "+" else "out")


def _split(words):
    """The list of the words, one or more; raises InvalidWords for any value that is no string."""
    if type(words) is not str:
        raise InvalidWords(0)
    return words.split(" ")


def _count_in(word, most):
    """The number from 1 to `most` that the word writes; raises InvalidWords, for it is the first one of its text."""
    count = number_in(word, 1)
    if count is None or count < 1 or count > most:
        raise InvalidWords(0)
    return count


def _check_row(values):
    """Raises InvalidWords at the first word behind the first one that tells no value or one that does not ascend."""
    for index, value in enumerate(values):
        if value is None or (index > 0 and value <= values[index - 1]):
            raise InvalidWords(index + 1)


def _thing_in(word, things):
    """The one of so many things that the word writes."""
    thing = number_in(word, 1)
    return None if thing is None or thing >= things else thing


def _part_in(word, things):
    """The part of so many things that the word writes."""
    if word == ".":
        return ()
    part = [literal_in(one, things) for one in word.split(",")]
    if any([literal is None for literal in part]) or not is_ascending([thing for thing, _ in part]):
        return None
    return tuple(part)


def _tie_in(word, places):
    """The tie between two of so many places that the word writes."""
    ends, _, weight_word = word.partition(":")
    low_word, _, high_word = ends.partition("-")
    low = number_in(low_word, 1)
    high = number_in(high_word, 1)
    weight = number_in(weight_word, MOST_DIGITS)
    if low is None or high is None or weight is None:
        return None
    if low >= high or high >= places or weight == 0:
        return None
    return (low, high, weight)
