"""Least cuts between the places that must and those that never may be in a side, and flows that show them."""

from thingwise.checks import check_never, check_side, is_ascending, is_integer
from thingwise.webs import check_web, cut_of, ends_of, rooms_of, ways_from


def least_cut(web, must, never):
    """The least cut, the least side that lies in all others, and the least side that has all others."""
    _check_between(web, must, never)
    rooms = _rooms_left(web, must, never)
    least, greatest = _outermost_sides(rooms, must, never)
    return (cut_of(web, least), least, greatest)


def least_sides(web, must, never):
    """The ascending list of all least sides."""
    _check_between(web, must, never)
    rooms = _rooms_left(web, must, never)
    least, greatest = _outermost_sides(rooms, must, never)
    # By F4 each least side is the least one with all that some places between both bring.
    found = {least: True}
    for place in _between(least, greatest):
        brought = tuple(ways_from([place], rooms))
        for side in list(found):
            found[side_with(side, brought)] = True
    return sorted(found)


def brings(web, must, never):
    """The ascending list of all (p, q) such that each least side with p has q; both are in some, but not in all."""
    _check_between(web, must, never)
    rooms = _rooms_left(web, must, never)
    least, greatest = _outermost_sides(rooms, must, never)
    between = _between(least, greatest)
    found = []
    for place in between:
        brought = ways_from([place], rooms)
        found.extend([(place, other_place) for other_place in between if other_place in brought])
    return [row for row in found if row[0] != row[1]]


def flow(web, must, never):
    """A flow with the worth of the least cut."""
    _check_between(web, must, never)
    rooms = _rooms_left(web, must, never)
    sent = [(low, high, weight - rooms[low][high]) for low, high, weight in web]
    onward = [(low, high, amount) for low, high, amount in sent if amount > 0]
    return sorted(onward + [(high, low, -amount) for low, high, amount in sent if amount < 0])


def flow_worth(web, must, never, value):
    """The worth if any value is a flow between both sides, otherwise None."""
    _check_between(web, must, never)
    if not _is_row_of_amounts(web, value):
        return None
    more_out = {}
    for place, other_place, amount in value:
        more_out[place] = more_out.get(place, 0) + amount
        more_out[other_place] = more_out.get(other_place, 0) - amount
    if any([more_out[place] != 0 for place in more_out if place not in must + never]):
        return None
    return sum([more_out.get(place, 0) for place in must])


def _check_between(web, must, never):
    """Raises the error of the first one of these parameters that is wrong."""
    check_web(web)
    check_side(must, web.places)
    check_never(never, must, web.places)


def _rooms_left(web, must, never):
    """A list that has for each place the list of what can still go to each place, behind a flow of greatest worth."""
    rooms = rooms_of(web)
    row = _shortest_row(rooms, must, never)
    while len(row) > 0:
        steps = list(zip(row, row[1:]))
        amount = min([rooms[place][other_place] for place, other_place in steps])
        for place, other_place in steps:
            rooms[place][other_place] -= amount
            rooms[other_place][place] += amount
        # Of all rows a shortest one: so the number of rows does not depend on the weights.
        row = _shortest_row(rooms, must, never)
    return rooms


def _shortest_row(rooms, must, never):
    """A shortest list of places with room from each to the next one, from must to never, [] if there is none."""
    ahead = ways_from(must, rooms)
    ends = [place for place in ahead if place in never]
    if len(ends) == 0:
        return []
    row = [ends[0]]
    while ahead[row[-1]] is not None:
        row.append(ahead[row[-1]])
    return row[::-1]


def _outermost_sides(rooms, must, never):
    """The least side that lies in all others and the one that has all others, by the room that is left.

    No least side has a place from which room is left to a place outside of it. So each one has all that can be
    reached from must, and none from which never can be reached.
    """
    places = range(len(rooms))
    rooms_back = [[rooms[place][other_place] for place in places] for other_place in places]
    barred = ways_from(never, rooms_back)
    least = tuple(sorted(ways_from(must, rooms)))
    return least, tuple([place for place in places if place not in barred])


def side_with(side, places):
    """The side with these places, too."""
    return tuple(sorted(set(side + places)))


def _between(least, greatest):
    """The list of the places of the greatest side that are not in the least one, ascending."""
    return [place for place in greatest if place not in least]


def _is_row_of_amounts(web, value):
    """Whether any value is an ascending list of tuples (place, other place, amount), each tie in one at most."""
    weights = {(low, high): weight for low, high, weight in web}
    if type(value) is not list or not all([_is_amount(row, weights) for row in value]):
        return False
    ties = [ends_of(place, other_place) for place, other_place, _ in value]
    return is_ascending(value) and len(set(ties)) == len(ties)


def _is_amount(value, weights):
    """Whether any value is a tuple of both places of a tie and an amount from 1 to its weight."""
    if type(value) is not tuple or len(value) != 3:
        return False
    place, other_place, amount = value
    # False and 0 are equal keys, so the kinds are asked ahead of the weight.
    if not is_integer(place, 0) or not is_integer(other_place, 0) or not is_integer(amount, 1):
        return False
    return amount <= weights.get(ends_of(place, other_place), 0)
