"""Parts: what can be known of a lot, what follows from it, and why."""

from thingwise.checks import check_literal, check_lot, check_part
from thingwise.errors import NoLot
from thingwise.tables import all_literals, check_closed, check_table, has_rule, meets


def contrary(literal):
    """The literal of the same thing with the other word."""
    check_literal(literal, None)
    thing, word = literal
    return (thing, "out" if word == "in" else "in")


def fits(lot, part):
    """Whether the lot meets all literals of the part; both of any things."""
    check_lot(lot, None)
    check_part(part, None)
    return all([meets(lot, literal) for literal in part])


def can_be(table, part):
    """Whether some lot of the table fits the part."""
    check_table(table)
    check_part(part, table.things)
    return len(fitting_lots(table, part)) > 0


def closure(table, part):
    """The part of all literals that all lots of the table that fit the part meet."""
    check_table(table)
    check_part(part, table.things)
    lots = fitting_lots(table, part)
    if len(lots) == 0:
        raise NoLot("no lot of the table fits the part")
    literals = all_literals(table.things)
    return tuple([literal for literal in literals if all([meets(lot, literal) for lot in lots])])


def clash(table, part):
    """The least one or two literals of the part that cannot be together, None if the part can be."""
    check_table(table)
    check_part(part, table.things)
    check_closed(table)
    if can_be(table, part):
        return None
    groups = [(literal,) for literal in part] + _pairs(part)
    # By F2 the table has such a group: it is closed, and the part cannot be.
    return [group for group in groups if not can_be(table, group)][0]


def why(table, part, literal):
    """The rule that brings the literal to the part; () if it stands there, None if it does not follow."""
    check_table(table)
    check_part(part, table.things)
    check_literal(literal, table.things)
    check_closed(table)
    if literal not in closure(table, part):
        return None
    if literal in part:
        return ()
    rules = [(literal,)] + [tuple(sorted([literal, contrary(known)])) for known in part]
    # By F2 one of them is a rule of the table: the literal is in the closure, but not in the part.
    return [rule for rule in rules if has_rule(table, rule)][0]


def fitting_lots(table, part):
    """The list of the lots of the table that fit the part."""
    return [lot for lot in table if fits(lot, part)]


def _pairs(part):
    """The ascending list of all tuples of two literals of the part."""
    return [(low, high) for low in part for high in part if low[0] < high[0]]
