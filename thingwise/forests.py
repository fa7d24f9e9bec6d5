"""Forests: what each place tells its neighbours of a thing, and what follows from these messages."""

from thingwise.checks import check_place, check_thing
from thingwise.errors import NotAForest
from thingwise.tasks import check_task, must_and_never
from thingwise.webs import is_forest, pieces, rooms_of, ways_from


def messages(task, thing):
    """The ascending list of (place, other place, message of the first one to the second one), two for each tie."""
    check_task(task)
    check_thing(thing, task.table.things)
    _check_forest(task)
    told = _all_messages(task, thing)
    return [(place, other_place, told[(place, other_place)]) for place, other_place in sorted(told)]


def margin(task, place, thing):
    """The sum of all messages that the place gets, None if its part tells of the thing."""
    check_task(task)
    check_place(place, task.web.places)
    check_thing(thing, task.table.things)
    _check_forest(task)
    must, never = must_and_never(task.parts, thing)
    if place in must + never:
        return None
    told = _all_messages(task, thing)
    return sum([told[way] for way in told if way[1] == place])


def forest_total(task):
    """The total: what of all messages on their way to one place of each piece stops at some place."""
    check_task(task)
    _check_forest(task)
    return sum([_thing_total(task, thing) for thing in range(task.table.things)])


def _check_forest(task):
    """Raises NotAForest unless the web of the task is a forest."""
    if not is_forest(task.web):
        raise NotAForest("the web of the task must be a forest")


def _all_messages(task, thing):
    """A dict with the message for each way (place, other place) along a tie."""
    rooms = rooms_of(task.web)
    must, never = must_and_never(task.parts, thing)
    told = {}
    for low, high, _ in task.web:
        for place, other_place in ((low, high), (high, low)):
            told[(place, other_place)] = _message(rooms, must, never, place, other_place)
    return told


def _message(rooms, must, never, place, other_place):
    """The message of the place to the other one, its neighbour; rooms has the weights of all ties."""
    weight = rooms[place][other_place]
    if place in must:
        return weight
    if place in never:
        return -weight
    others = [third for third in range(len(rooms)) if rooms[place][third] > 0 and third != other_place]
    heard = sum([_message(rooms, must, never, third, place) for third in others])
    return max(-weight, min(weight, heard))


def _thing_total(task, thing):
    """The cut of the thing.

    In each piece the messages go to its first place. What they tell for and against the thing is cut at the place
    where both meet; what is left of it goes on, as far as the weight of the tie lets it.
    """
    told = _all_messages(task, thing)
    must, never = must_and_never(task.parts, thing)
    rooms = rooms_of(task.web)
    total = 0
    for piece in pieces(task.web):
        ahead = ways_from([piece[0]], rooms)
        for place in piece:
            heard = [told[way] for way in told if way[1] == place and way[0] != ahead[place]]
            pro = sum([message for message in heard if message > 0])
            contra = -sum([message for message in heard if message < 0])
            total += _stopped(place, pro, contra, must, never)
    return total


def _stopped(place, pro, contra, must, never):
    """What of the messages for and against the thing is cut at the place."""
    if place in must:
        return contra
    if place in never:
        return pro
    return min(pro, contra)
