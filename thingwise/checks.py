"""Whether a value is of a described kind, and the errors of the parameters that take this kind.

Wherever a number of things is asked for here, None stands for "of any things".
"""

from thingwise.errors import InvalidLiteral, InvalidLot, InvalidPart, InvalidRules, InvalidThings


def is_integer(value, least):
    """Whether any value is an integer from `least` on; a truth is none."""
    return type(value) is int and value >= least


def is_thing(value, things):
    """Whether any value is one of so many things."""
    return is_integer(value, 0) and (things is None or value < things)


def is_ascending(values):
    """Whether values that can be compared ascend strictly."""
    return all([low < high for low, high in zip(values, values[1:])])


def is_lot(value, things):
    """Whether any value is a lot of so many things."""
    if type(value) is not tuple:
        return False
    # Only what surely is a thing can be compared, so this is asked ahead of the sequence.
    return all([is_thing(thing, things) for thing in value]) and is_ascending(value)


def is_literal(value, things):
    """Whether any value is a literal of so many things."""
    if type(value) is not tuple or len(value) != 2:
        return False
    thing, word = value
    return is_thing(thing, things) and type(word) is str and word in ("in", "out")


def is_part(value, things):
    """Whether any value is a part of so many things."""
    if type(value) is not tuple:
        return False
    if not all([is_literal(literal, things) for literal in value]):
        return False
    # Unlike things: with the things ascending, the literals ascend, too.
    return is_ascending([literal[0] for literal in value])


def is_rule(value, things):
    """Whether any value is a rule of so many things: a part with one literal or two."""
    return is_part(value, things) and len(value) in (1, 2)


def check_things(things):
    """Raises InvalidThings unless this is a number of things."""
    if not is_integer(things, 1):
        raise InvalidThings("the number of things must be an integer from 1 on")


def check_lot(lot, things):
    """Raises InvalidLot unless this is a lot of so many things."""
    if not is_lot(lot, things):
        raise InvalidLot("a lot must be an ascending tuple of things that are there")


def check_literal(literal, things):
    """Raises InvalidLiteral unless this is a literal of so many things."""
    if not is_literal(literal, things):
        raise InvalidLiteral("a literal must be a tuple of a thing that is there and 'in' or 'out'")


def check_rules(rules, things):
    """Raises InvalidRules unless this is a list of rules of so many things."""
    if type(rules) is not list or not all([is_rule(rule, things) for rule in rules]):
        raise InvalidRules("rules must be a list of ascending tuples of one or two literals")


def check_part(part, things):
    """Raises InvalidPart unless this is a part of so many things."""
    if not is_part(part, things):
        raise InvalidPart("a part must be an ascending tuple of literals of unlike things")
