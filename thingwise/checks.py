"""Whether a value is of a described kind, and the errors of the parameters that take this kind.

Wherever a number of things is asked for here, None stands for "of any things".
"""

from thingwise.errors import (
    InvalidFilling, InvalidLiteral, InvalidLot, InvalidOrder, InvalidPart, InvalidParts, InvalidPlace, InvalidPlaces,
    InvalidRules, InvalidSide, InvalidThing, InvalidThings, InvalidWeight, InvalidWishes)


def is_integer(value, least):
    """Whether any value is an integer from `least` on; a truth is none."""
    return type(value) is int and value >= least


def is_thing(value, things):
    """Whether any value is one of so many things."""
    return is_integer(value, 0) and (things is None or value < things)


def is_ascending(values):
    """Whether values that can be compared ascend strictly."""
    return all([low < high for low, high in zip(values, values[1:])])


def is_lot(value, things):
    """Whether any value is a lot of so many things."""
    if type(value) is not tuple:
        return False
    # Only what surely is a thing can be compared, so this is asked ahead of the sequence.
    return all([is_thing(thing, things) for thing in value]) and is_ascending(value)


def is_literal(value, things):
    """Whether any value is a literal of so many things."""
    if type(value) is not tuple or len(value) != 2:
        return False
    thing, word = value
    return is_thing(thing, things) and type(word) is str and word in ("in", "out")


def is_part(value, things):
    """Whether any value is a part of so many things."""
    if type(value) is not tuple:
        return False
    if not all([is_literal(literal, things) for literal in value]):
        return False
    # Unlike things: with the things ascending, the literals ascend, too.
    return is_ascending([literal[0] for literal in value])


def is_rule(value, things):
    """Whether any value is a rule of so many things: a part with one literal or two."""
    return is_part(value, things) and len(value) in (1, 2)


def is_place(value, places):
    """Whether any value is one of so many places."""
    return is_integer(value, 0) and value < places


def is_told_tie(value, places):
    """Whether any value is a tuple of two unlike ones of so many places, in either order, and a weight, maybe 0."""
    if type(value) is not tuple or len(value) != 3:
        return False
    place, other_place, weight = value
    if not is_place(place, places) or not is_place(other_place, places):
        return False
    return place != other_place and is_integer(weight, 0)


def is_side(value, places):
    """Whether any value is a side of so many places: an ascending tuple, as a lot is one of things."""
    return is_lot(value, places)


def is_wish(value, things, places):
    """Whether any value is a wish for so many things and places."""
    if type(value) is not tuple or len(value) != 2:
        return False
    place, literal = value
    return is_place(place, places) and is_literal(literal, things)


def check_things(things):
    """Raises InvalidThings unless this is a number of things."""
    if not is_integer(things, 1):
        raise InvalidThings("the number of things must be an integer from 1 on")


def check_lot(lot, things):
    """Raises InvalidLot unless this is a lot of so many things."""
    if not is_lot(lot, things):
        raise InvalidLot("a lot must be an ascending tuple of things that are there")


def check_literal(literal, things):
    """Raises InvalidLiteral unless this is a literal of so many things."""
    if not is_literal(literal, things):
        raise InvalidLiteral("a literal must be a tuple of a thing that is there and 'in' or 'out'")


def check_thing(thing, things):
    """Raises InvalidThing unless this is one of so many things."""
    if not is_thing(thing, things):
        raise InvalidThing("a thing must be an integer from 0 on, less than the number of things")


def check_rules(rules, things):
    """Raises InvalidRules unless this is a list of rules of so many things."""
    if type(rules) is not list or not all([is_rule(rule, things) for rule in rules]):
        raise InvalidRules("rules must be a list of ascending tuples of one or two literals")


def check_part(part, things):
    """Raises InvalidPart unless this is a part of so many things."""
    if not is_part(part, things):
        raise InvalidPart("a part must be an ascending tuple of literals of unlike things")


def check_places(places):
    """Raises InvalidPlaces unless this is a number of places."""
    if not is_integer(places, 1):
        raise InvalidPlaces("the number of places must be an integer from 1 on")


def check_place(place, places):
    """Raises InvalidPlace unless this is one of so many places."""
    if not is_place(place, places):
        raise InvalidPlace("a place must be an integer from 0 on, less than the number of places")


def check_other_place(other_place, place, places):
    """Raises InvalidPlace unless this is one of so many places, unlike the first one."""
    check_place(other_place, places)
    if other_place == place:
        raise InvalidPlace("the other place must be unlike the first one")


def check_weight(weight):
    """Raises InvalidWeight unless this is a weight, 0 included."""
    if not is_integer(weight, 0):
        raise InvalidWeight("a weight must be an integer from 0 on")


def check_side(side, places):
    """Raises InvalidSide unless this is a side of so many places."""
    if not is_side(side, places):
        raise InvalidSide("a side must be an ascending tuple of places that are there")


def check_never(never, must, places):
    """Raises InvalidSide unless this is a side of so many places without a place of must."""
    check_side(never, places)
    if any([place in must for place in never]):
        raise InvalidSide("must and never may not have a common place")


def check_outer(outer, places):
    """Raises InvalidSide unless this is a side of so many places with one place or more."""
    check_side(outer, places)
    if len(outer) == 0:
        raise InvalidSide("there must be one outer place or more")


def check_order(order, places):
    """Raises InvalidOrder unless this is a tuple with each of so many places once."""
    if type(order) is not tuple or not all([is_place(place, places) for place in order]):
        raise InvalidOrder("an order must be a tuple of places that are there")
    if len(order) != places or len(set(order)) != places:
        raise InvalidOrder("an order must have each place once")


def check_parts(parts, things, places):
    """Raises InvalidParts unless this is a tuple with a part of so many things for each of so many places."""
    if type(parts) is not tuple or len(parts) != places:
        raise InvalidParts("parts must be a tuple with a part for each place")
    if not all([is_part(part, things) for part in parts]):
        raise InvalidParts("each of the parts must be a part of the things of the table")


def check_filling(filling, places):
    """Raises InvalidFilling unless this is a tuple with a lot of any things for each of so many places."""
    if type(filling) is not tuple or len(filling) != places:
        raise InvalidFilling("a filling must be a tuple with a lot for each place")
    if not all([is_lot(lot, None) for lot in filling]):
        raise InvalidFilling("a filling must have nothing but lots")


def check_free_filling(filling):
    """Raises InvalidFilling unless this is a tuple with one or more lots of any things."""
    if type(filling) is not tuple or len(filling) == 0:
        raise InvalidFilling("a filling must be a tuple of one or more lots")
    check_filling(filling, len(filling))


def check_wishes(wishes, things, places):
    """Raises InvalidWishes unless this is a list of wishes for so many things and places."""
    if type(wishes) is not list or not all([is_wish(wish, things, places) for wish in wishes]):
        raise InvalidWishes("wishes must be a list of tuples of a place and a literal")
