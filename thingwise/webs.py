"""Webs: places, the ties between them, the cuts of their sides, and their pieces."""

from thingwise.checks import (
    check_order, check_other_place, check_place, check_places, check_side, check_weight, is_told_tie)
from thingwise.errors import InvalidTies, InvalidWeb


class Web:
    """A number of places, and ties with weights between them."""

    def __init__(self, places, ties):
        check_places(places)
        if type(ties) is not list or not all([is_told_tie(tie, places) for tie in ties]):
            raise InvalidTies("ties must be a list of tuples of two unlike places and a weight from 0 on")
        self._places = places
        self._ties = _joined_ties(ties)

    @property
    def places(self):
        """The number of places."""
        return self._places

    @property
    def ties(self):
        """The ascending list of the ties, the lesser place of each one first."""
        return list(self._ties)

    def __len__(self):
        return len(self._ties)

    def __iter__(self):
        return iter(self._ties)

    def __eq__(self, other):
        return isinstance(other, Web) and self._places == other._places and self._ties == other._ties

    def __add__(self, other):
        if not isinstance(other, Web):
            raise InvalidWeb("beside a web only a Web can be put")
        raised = [(low + self._places, high + self._places, weight) for low, high, weight in other._ties]
        return Web(self._places + other._places, list(self._ties) + raised)


def _joined_ties(ties):
    """The ascending tuple of the ties, with the weights of those between the same places added, none of weight 0."""
    weights = {}
    for place, other_place, weight in ties:
        ends = ends_of(place, other_place)
        weights[ends] = weights.get(ends, 0) + weight
    return tuple(sorted([(low, high, weight) for (low, high), weight in weights.items() if weight > 0]))


def check_web(web):
    """Raises InvalidWeb unless this is a Web."""
    if not isinstance(web, Web):
        raise InvalidWeb("a web must be a Web")


def ends_of(place, other_place):
    """Both places, the lesser one first, as in the tie between them."""
    return (min(place, other_place), max(place, other_place))


def weight_of(web, place, other_place):
    """The weight of the tie between both places, 0 if there is none."""
    check_web(web)
    check_place(place, web.places)
    check_other_place(other_place, place, web.places)
    ends = ends_of(place, other_place)
    return sum([weight for low, high, weight in web if (low, high) == ends])


def with_tie(web, place, other_place, weight):
    """The web in which the tie between both places has this weight."""
    check_web(web)
    check_place(place, web.places)
    check_other_place(other_place, place, web.places)
    check_weight(weight)
    return Web(web.places, _ties_without(web, place, other_place) + [(place, other_place, weight)])


def _ties_without(web, place, other_place):
    """The list of all ties but the one between both places."""
    ends = ends_of(place, other_place)
    return [(low, high, weight) for low, high, weight in web if (low, high) != ends]


def cut_of(web, side):
    """The sum of the weights of all ties with one end in the side and the other one not."""
    check_web(web)
    check_side(side, web.places)
    return _cut(web, side)


def _cut(web, places):
    """The cut of these places, in any sequence."""
    return sum([weight for low, high, weight in web if (low in places) != (high in places)])


def cut_gaps(web, side, other_side):
    """What the cuts of both sides are more than those of their common places and of all their places together,
    and more than those of each side without the other one."""
    check_web(web)
    check_side(side, web.places)
    check_side(other_side, web.places)
    common = [place for place in side if place in other_side]
    alone = [place for place in side if place not in other_side]
    other_alone = [place for place in other_side if place not in side]
    both_cuts = _cut(web, side) + _cut(web, other_side)
    crossed = _cut(web, common) + _cut(web, alone + common + other_alone)
    return (both_cuts - crossed, both_cuts - _cut(web, alone) - _cut(web, other_alone))


def glued(web, place, other_place):
    """The web in which the other place is joined with the first one; the places above it are lowered."""
    check_web(web)
    check_place(place, web.places)
    check_other_place(other_place, place, web.places)
    names = [_glued_name(old, place, other_place) for old in range(web.places)]
    ties = _ties_without(web, place, other_place)
    return Web(web.places - 1, [(names[low], names[high], weight) for low, high, weight in ties])


def _glued_name(old, place, other_place):
    """What this place is called when the other place is joined with the first one."""
    joined = place if old == other_place else old
    return joined - 1 if joined > other_place else joined


def renamed(web, order):
    """The web in which the place order[k] is called k."""
    check_web(web)
    check_order(order, web.places)
    return Web(web.places, [(order.index(low), order.index(high), weight) for low, high, weight in web])


def rooms_of(web):
    """A list that has for each place the list of the weights of its ties with all places."""
    rooms = [[0] * web.places for _ in range(web.places)]
    for low, high, weight in web:
        rooms[low][high] = weight
        rooms[high][low] = weight
    return rooms


def ways_from(starts, rooms):
    """A dict with the places to which there are rows of places with room, rooms[p][q] from p to q, from the starts.

    The nearest ones come first. Each stands with the place ahead of it in a shortest row, a start with None.
    """
    ahead = {start: None for start in starts}
    layer = list(starts)
    while len(layer) > 0:
        found = []
        for place in list(layer):
            for other_place in range(len(rooms)):
                if rooms[place][other_place] > 0 and other_place not in ahead:
                    ahead[other_place] = place
                    found.append(other_place)
        layer = found
    return ahead


def pieces(web):
    """The ascending list of the pieces, as sides."""
    check_web(web)
    rooms = rooms_of(web)
    found = []
    for place in range(web.places):
        if not any([place in piece for piece in found]):
            found.append(tuple(sorted(ways_from([place], rooms))))
    return found


def is_forest(web):
    """Whether no row of unlike ties leads from a place back to it."""
    check_web(web)
    # Without such a row each tie joins two pieces; any further tie closes one.
    return len(web) == web.places - len(pieces(web))
