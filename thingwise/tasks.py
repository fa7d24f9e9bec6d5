"""Tasks: webs whose places are partly known, their best fillings, and flows that show that a filling is best."""

from thingwise.checks import check_filling, check_parts, check_things, is_lot
from thingwise.cuts import flow, flow_worth, least_cut
from thingwise.errors import CannotBe, InvalidLot, InvalidTask
from thingwise.parts import can_be, closure, fits, fitting_lots
from thingwise.tables import all_literals, check_closed, check_table, meets, missing_middle
from thingwise.webs import Web, check_web


class Task:
    """A closed table, a web, and a part for each place that can be in the table."""

    def __init__(self, table, web, parts):
        _check_kinds(table, web, parts)
        check_closed(table)
        _check_can_be(table, parts)
        self._table = table
        self._web = web
        self._parts = tuple([closure(table, part) for part in parts])

    @property
    def table(self):
        """The table of the allowed lots."""
        return self._table

    @property
    def web(self):
        """The web."""
        return self._web

    @property
    def parts(self):
        """The tuple of the closures of the parts, one for each place."""
        return self._parts

    def __eq__(self, other):
        if not isinstance(other, Task):
            return False
        return self._table == other._table and self._web == other._web and self._parts == other._parts


def _check_kinds(table, web, parts):
    """Raises the error of the first one of these parameters that is wrong."""
    check_table(table)
    check_web(web)
    check_parts(parts, table.things, web.places)


def _check_can_be(table, parts):
    """Raises CannotBe with the first place whose part cannot be in the table."""
    for place, part in enumerate(parts):
        if not can_be(table, part):
            raise CannotBe(place)


def check_task(task):
    """Raises InvalidTask unless this is a Task."""
    if not isinstance(task, Task):
        raise InvalidTask("a task must be a Task")


def parts_of(things, lots):
    """The tuple of the parts that tell each of these lots in full, () for None."""
    check_things(things)
    if type(lots) is not list or not all([lot is None or is_lot(lot, things) for lot in lots]):
        raise InvalidLot("lots must be a list of lots of the things, or None")
    return tuple([() if lot is None else _full_part(things, lot) for lot in lots])


def _full_part(things, lot):
    """The part of all literals that the lot meets."""
    return tuple([literal for literal in all_literals(things) if meets(lot, literal)])


def cost(web, filling):
    """The sum over all ties of the weight times the number of things at just one of both ends."""
    check_web(web)
    check_filling(filling, web.places)
    return sum([weight * things_apart(filling[low], filling[high]) for low, high, weight in web])


def things_apart(lot, other_lot):
    """The number of things that are in just one of both lots."""
    here_alone = [thing for thing in lot if thing not in other_lot]
    there_alone = [thing for thing in other_lot if thing not in lot]
    return len(here_alone) + len(there_alone)


def fills(task, value):
    """Whether any value is a filling of the task."""
    check_task(task)
    if type(value) is not tuple or len(value) != task.web.places:
        return False
    return all([lot in task.table and fits(lot, part) for lot, part in zip(value, task.parts)])


def must_and_never(parts, thing):
    """The side of the places that are known to have the thing, and that of those that are known not to."""
    return _told_places(parts, (thing, "in")), _told_places(parts, (thing, "out"))


def _told_places(parts, literal):
    """The side of the places whose part has the literal."""
    return tuple([place for place, part in enumerate(parts) if literal in part])


def thing_cut(web, parts, thing):
    """What least_cut tells of the thing, regarded by itself."""
    must, never = must_and_never(parts, thing)
    return least_cut(web, must, never)


def cuts_of_things(things, web, parts):
    """The list of what least_cut tells of each thing."""
    return [thing_cut(web, parts, thing) for thing in range(things)]


def thing_cuts(task):
    """The list of what least_cut tells of each thing, from 0 on."""
    check_task(task)
    return cuts_of_things(task.table.things, task.web, task.parts)


def least_total(task):
    """The least cost of a filling of the task: by F6 the sum of the cuts of the things."""
    return sum([told[0] for told in thing_cuts(task)])


def best_toward(task, toward):
    """The best filling toward this lot: its things stand wherever they can, the others only where they must (F8)."""
    check_task(task)
    if toward not in task.table:
        raise InvalidLot("the lot must be one of the table of the task")
    sides = []
    for thing, (_, least, greatest) in enumerate(thing_cuts(task)):
        sides.append(greatest if thing in toward else least)
    return tuple([_things_there(sides, place) for place in range(task.web.places)])


def _things_there(sides, place):
    """The lot of the things whose side has the place."""
    return tuple([thing for thing, side in enumerate(sides) if place in side])


def flows(task):
    """The list with a flow of greatest worth for each thing, from 0 on."""
    check_task(task)
    between = [must_and_never(task.parts, thing) for thing in range(task.table.things)]
    return [flow(task.web, must, never) for must, never in between]


def shows_best(task, value, other_value):
    """Whether the first value is a filling of the task, and the second one flows that show that it is best."""
    if not fills(task, value):
        return False
    if type(other_value) is not list or len(other_value) != task.table.things:
        return False
    worths = [_thing_worth(task, thing, told) for thing, told in enumerate(other_value)]
    return all([worth is not None for worth in worths]) and cost(task.web, value) == sum(worths)


def _thing_worth(task, thing, value):
    """The worth if any value is a flow for the thing, otherwise None."""
    must, never = must_and_never(task.parts, thing)
    return flow_worth(task.web, must, never, value)


def tried_total(table, web, parts):
    """The least cost of all fillings whose lots are lots of the table, closed or not, and fit the parts."""
    _check_kinds(table, web, parts)
    _check_can_be(table, parts)
    choices = [fitting_lots(table, part) for part in parts]
    ties_down = [[(low, weight) for low, high, weight in web if high == place] for place in range(web.places)]
    return _tried_rest((), choices, ties_down)


def _tried_rest(filling, choices, ties_down):
    """The least cost that the other places add to the beginning of a filling, each by its ties to places ahead."""
    place = len(filling)
    if place == len(choices):
        return 0
    found = []
    for lot in choices[place]:
        added = sum([weight * things_apart(filling[low], lot) for low, weight in ties_down[place]])
        found.append(added + _tried_rest(filling + (lot,), choices, ties_down))
    return min(found)


def star_against(table):
    """A web and parts at which a table that is not closed fails thing by thing (F7), None if it is closed."""
    check_table(table)
    three = missing_middle(table)
    if three is None:
        return None
    web = Web(4, [(0, 3, 1), (1, 3, 1), (2, 3, 1)])
    parts = parts_of(table.things, list(three) + [None])
    thing_by_thing = sum([told[0] for told in cuts_of_things(table.things, web, parts)])
    return (web, parts, thing_by_thing, tried_total(table, web, parts))
