"""Prices: what a wish, or a lot at a place, costs more than the total, and what is sure."""

from thingwise.checks import check_literal, check_place
from thingwise.cuts import least_cut, side_with
from thingwise.errors import CannotBe
from thingwise.parts import can_be, closure, contrary, fitting_lots
from thingwise.tables import all_literals, meets
from thingwise.tasks import Task, check_task, must_and_never, thing_cut


def thing_price(task, place, literal):
    """What the literal at the place costs more, its thing regarded by itself; None if it cannot be."""
    _check_wish(task, place, literal)
    if contrary(literal) in task.parts[place]:
        return None
    thing, word = literal
    must, never = must_and_never(task.parts, thing)
    if word == "in":
        must = side_with(must, (place,))
    else:
        never = side_with(never, (place,))
    return least_cut(task.web, must, never)[0] - thing_cut(task.web, task.parts, thing)[0]


def price(task, place, literal):
    """What the literal at the place costs more; None if it cannot be. By F9 the sum of what it brings."""
    _check_wish(task, place, literal)
    longer = longer_part(task, place, [literal])
    if longer is None:
        return None
    return sum([thing_price(task, place, known) for known in longer])


def lot_prices(task, place):
    """The ascending list of (price, lot) for all lots of the table that fit the part of the place."""
    _check_place_of(task, place)
    literals = all_literals(task.table.things)
    found = {literal: thing_price(task, place, literal) for literal in literals}
    rows = []
    for lot in fitting_lots(task.table, task.parts[place]):
        rows.append((sum([found[literal] for literal in literals if meets(lot, literal)]), lot))
    return sorted(rows)


def lots_at(task, place):
    """The ascending list of the lots that best fillings have at the place."""
    return [lot for more, lot in lot_prices(task, place) if more == 0]


def sure(task, place):
    """The ascending tuple of all literals that all best fillings meet at the place."""
    _check_place_of(task, place)
    return tuple([literal for literal in all_literals(task.table.things) if _is_sure(task, place, literal)])


def _is_sure(task, place, literal):
    """Whether all best fillings meet the literal at the place: by F9 its contrary cannot be, or costs more."""
    against = thing_price(task, place, contrary(literal))
    return against is None or against > 0


def open_places(task):
    """The ascending list of the places at which best fillings have unlike lots."""
    check_task(task)
    return [place for place in range(task.web.places) if len(lots_at(task, place)) > 1]


def with_known(task, place, literal):
    """The Task in which the part of the place has the literal, too."""
    _check_wish(task, place, literal)
    longer = longer_part(task, place, [literal])
    if longer is None:
        raise CannotBe(place)
    return Task(task.table, task.web, task.parts[:place] + (longer,) + task.parts[place + 1:])


def _check_place_of(task, place):
    """Raises the error of the first one of these parameters that is wrong."""
    check_task(task)
    check_place(place, task.web.places)


def _check_wish(task, place, literal):
    """Raises the error of the first one of these parameters that is wrong."""
    _check_place_of(task, place)
    check_literal(literal, task.table.things)


def longer_part(task, place, literals):
    """The closure of the part of the place with these literals added, None if this cannot be."""
    part = task.parts[place]
    added = tuple([literal for literal in sorted(set(literals)) if literal not in part])
    if len(added) == 0:
        return part
    # With a literal and its contrary there is no part at all.
    longer = tuple(sorted(part + added))
    if any([contrary(literal) in longer for literal in added]) or not can_be(task.table, longer):
        return None
    return closure(task.table, longer)
