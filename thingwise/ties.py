"""How the total and the best fillings of a task depend on the weight of one tie."""

from thingwise.best import is_best
from thingwise.checks import check_filling, check_other_place, check_place, check_weight
from thingwise.cuts import least_cut, side_with
from thingwise.errors import InvalidWeight, NotBest
from thingwise.tasks import check_task, must_and_never, things_apart
from thingwise.webs import with_tie


def tie_numbers(task, place, other_place):
    """The list of (alike, apart) for each thing: its least cut with both places on one hand, None if this cannot be,
    and its least cut without the tie."""
    _check_ends(task, place, other_place)
    web = with_tie(task.web, place, other_place, 0)
    numbers = []
    for thing in range(task.table.things):
        must, never = must_and_never(task.parts, thing)
        numbers.append((_alike(web, must, never, (place, other_place)), least_cut(web, must, never)[0]))
    return numbers


def bends(task, place, other_place):
    """The list of the weights at which the total begins to grow more slowly, as often as things do so there."""
    numbers = tie_numbers(task, place, other_place)
    return sorted([alike - apart for alike, apart in numbers if alike is not None])


def total_at(task, place, other_place, weight):
    """The total of the task if the tie has this weight."""
    _check_ends(task, place, other_place)
    check_weight(weight)
    numbers = tie_numbers(task, place, other_place)
    return sum([apart + weight if alike is None else min(alike, apart + weight) for alike, apart in numbers])


def crossings(task, place, other_place, weight):
    """The least and the greatest number of things that best fillings have at just one end of a tie of this weight."""
    _check_ends(task, place, other_place)
    check_weight(weight)
    if weight == 0:
        raise InvalidWeight("without a tie nothing is said of things at just one end")
    falling = _bends_from_above(task, place, other_place)
    above = [bend for bend in falling if bend is None or bend > weight]
    return (len(above), len([bend for bend in falling if bend is None or bend >= weight]))


def best_range(task, place, other_place, filling):
    """The least and the greatest weight of the tie at which a best filling stays one; None for no greatest one."""
    _check_ends(task, place, other_place)
    check_filling(filling, task.web.places)
    if not is_best(task, filling):
        raise NotBest("the filling must be a best one of the task as it is")
    falling = _bends_from_above(task, place, other_place)
    apart = things_apart(filling[place], filling[other_place])
    least = falling[apart] if apart < len(falling) else 0
    return (least, None if apart == 0 else falling[apart - 1])


def _check_ends(task, place, other_place):
    """Raises the error of the first one of these parameters that is wrong."""
    check_task(task)
    check_place(place, task.web.places)
    check_other_place(other_place, place, task.web.places)


def _alike(web, must, never, ends):
    """The least cut with both ends on one hand, None if one of them must and the other one never may be there."""
    cuts = []
    if not any([end in never for end in ends]):
        cuts.append(least_cut(web, side_with(must, ends), never)[0])
    if not any([end in must for end in ends]):
        cuts.append(least_cut(web, must, side_with(never, ends))[0])
    return min(cuts, default=None)


def _bends_from_above(task, place, other_place):
    """The list with the bend of each thing, the greatest first; None, for a thing without alike, is above all."""
    found = bends(task, place, other_place)
    return [None] * (task.table.things - len(found)) + found[::-1]
