"""What a web is from outside: the least cuts for its outer places, and smaller webs that have the same ones."""

from thingwise.checks import check_outer, check_place
from thingwise.cuts import least_cut
from thingwise.errors import InvalidPlace, InvalidSide, TooManyTies
from thingwise.tables import all_lots
from thingwise.webs import Web, check_web


def outline(web, outer):
    """The list of the least cuts for all ways to part the outer places.

    At the index k the places with the digit 1 in k must be in the side, the others never may.
    """
    check_web(web)
    check_outer(outer, web.places)
    found = []
    for indexes in all_lots(len(outer)):
        must = tuple([outer[index] for index in indexes])
        never = tuple([place for place in outer if place not in must])
        found.append(least_cut(web, must, never)[0])
    return found


def parted_outside(web, outer, other_web, other_outer):
    """The indexes of the outer places in the first part at which the outlines differ, None if they are equal."""
    check_web(web)
    check_outer(outer, web.places)
    check_web(other_web)
    check_outer(other_outer, other_web.places)
    if len(outer) != len(other_outer):
        raise InvalidSide("both webs must have equally many outer places")
    cuts = outline(web, outer)
    other_cuts = outline(other_web, other_outer)
    for index, indexes in enumerate(all_lots(len(outer))):
        if cuts[index] != other_cuts[index]:
            return indexes
    return None


def star_of(web, outer):
    """The star of three places around a fourth one that has the outline of the web."""
    check_web(web)
    check_outer(outer, web.places)
    if len(outer) != 3:
        raise InvalidSide("a star has three outer places")
    told = outline(web, outer)
    return Web(4, [(0, 3, told[1]), (1, 3, told[2]), (2, 3, told[4])])


def take_out(web, place):
    """The web without the place, with the same least cuts for the others, and the factor by which they are greater."""
    check_web(web)
    check_place(place, web.places)
    if web.places == 1:
        raise InvalidPlace("the only place of a web cannot be taken out")
    near = _ties_at(web, place)
    if len(near) > 3:
        raise TooManyTies("a place with more than three ties cannot be taken out")
    factor = 2 if len(near) == 3 else 1
    kept = [(low, high, factor * weight) for low, high, weight in web if place not in (low, high)]
    ties = [(_lowered(low, place), _lowered(high, place), weight) for low, high, weight in kept + _ties_instead(near)]
    return (Web(web.places - 1, ties), factor)


def shrunk(web, outer):
    """The web without the places that can be taken out and are no outer ones, the factor, and the places left."""
    check_web(web)
    check_outer(outer, web.places)
    factor = 1
    left = list(range(web.places))
    place = _next_to_go(web, left, outer)
    while place is not None:
        web, more = take_out(web, place)
        factor = factor * more
        left = left[:place] + left[place + 1:]
        place = _next_to_go(web, left, outer)
    return (web, factor, left)


def _ties_at(web, place):
    """The list of (other place, weight) for all ties of the place."""
    return [(high if low == place else low, weight) for low, high, weight in web if place in (low, high)]


def _lowered(old, place):
    """What a place is called when this place is taken out."""
    return old - 1 if old > place else old


def _ties_instead(near):
    """The ties between the neighbours (F13) that do what the ties to a place with at most three of them did."""
    if len(near) == 2:
        (place, weight), (other_place, other_weight) = near
        return [(place, other_place, min(weight, other_weight))]
    if len(near) == 3:
        return _triangle(near)
    return []


def _triangle(near):
    """The ties between three neighbours; they do it for the doubled cuts."""
    total = sum([weight for _, weight in near])
    free = [min(weight, total - weight) for _, weight in near]
    ties = []
    for k in range(3):
        (place, _), (other_place, _) = near[:k] + near[k + 1:]
        ties.append((place, other_place, sum(free) - 2 * free[k]))
    return ties


def _next_to_go(web, left, outer):
    """The place with the fewest ties, three at most, that is no outer one; left has what places are called outside."""
    rows = [(len(_ties_at(web, place)), place) for place, name in enumerate(left) if name not in outer]
    few = [(ties, place) for ties, place in rows if ties <= 3]
    return min(few)[1] if len(few) > 0 else None
