"""Best fillings: all of them, those that meet wishes, and which wishes go together."""

from thingwise.checks import check_filling, check_free_filling, check_wishes
from thingwise.prices import longer_part
from thingwise.tables import middle
from thingwise.tasks import Task, best_toward, check_task, cost, cuts_of_things, fills, least_total


def extra(task, wishes):
    """What a filling that meets all wishes costs more; None if no filling of the task meets them."""
    _check_wishes_of(task, wishes)
    parts = _parts_with(task, wishes)
    if parts is None:
        return None
    cuts = cuts_of_things(task.table.things, task.web, parts)
    return sum([told[0] for told in cuts]) - least_total(task)


def barred(task, wishes):
    """The least one or two wishes that no best filling meets together; None if one meets all of them."""
    _check_wishes_of(task, wishes)
    unlike = sorted(set(wishes))
    groups = [(wish,) for wish in unlike] + [(low, high) for low in unlike for high in unlike if low < high]
    # By F10 some best filling meets all wishes if none of these groups is barred.
    for group in groups:
        if extra(task, list(group)) != 0:
            return group
    return None


def best_with(task, wishes):
    """A best filling that meets all wishes, None if there is none."""
    if extra(task, wishes) != 0:
        return None
    return best_toward(Task(task.table, task.web, _parts_with(task, wishes)), task.table.lots[0])


def best_fillings(task):
    """The ascending list of all best fillings.

    By F10 a word may be chosen for one thing at one place after another: whatever has not been brought by the
    words so far still goes together with them.
    """
    check_task(task)
    start = _sure_words(task, task.parts)
    found = [start]
    for place, thing in _all_spots(task):
        if (place, thing) not in start:
            brought = [_words_with(task, place, (thing, word)) for word in ("in", "out")]
            found = _with_each(found, (place, thing), brought)
    return sorted([_filling_of(task, words) for words in found])


def count_best(task):
    """The number of all best fillings."""
    return len(best_fillings(task))


def is_best(task, value):
    """Whether any value is a best filling."""
    return fills(task, value) and cost(task.web, value) == least_total(task)


def middle_filling(filling, other_filling, third_filling):
    """The filling of the middles, place by place, of three fillings of equal length with any things."""
    check_free_filling(filling)
    check_filling(other_filling, len(filling))
    check_filling(third_filling, len(filling))
    return tuple([middle(*lots) for lots in zip(filling, other_filling, third_filling)])


def _check_wishes_of(task, wishes):
    """Raises the error of the first one of these parameters that is wrong."""
    check_task(task)
    check_wishes(wishes, task.table.things, task.web.places)


def _parts_with(task, wishes):
    """The tuple of the closures of the parts with all wishes added, None if one of them cannot be."""
    parts = []
    for place in range(task.web.places):
        wished = [literal for wish_place, literal in wishes if wish_place == place]
        parts.append(longer_part(task, place, wished))
    return None if any([part is None for part in parts]) else tuple(parts)


def _all_spots(task):
    """The list of all (place, thing)."""
    return [(place, thing) for place in range(task.web.places) for thing in range(task.table.things)]


def _sure_words(task, parts):
    """A dict with the word of each (place, thing) in which all best fillings for these parts agree."""
    words = {}
    for thing, (_, least, greatest) in enumerate(cuts_of_things(task.table.things, task.web, parts)):
        for place in range(task.web.places):
            if place in least:
                words[(place, thing)] = "in"
            elif place not in greatest:
                words[(place, thing)] = "out"
    return words


def _words_with(task, place, literal):
    """A dict with the words in which all best fillings agree that meet this wish; some best filling does."""
    return _sure_words(task, _parts_with(task, [(place, literal)]))


def _with_each(found, spot, brought):
    """The dicts of words, with each of the brought ones added to those that do not tell of the spot."""
    longer = []
    for words in found:
        if spot in words:
            longer.append(words)
        else:
            longer.extend([_joined(words, more) for more in brought])
    return longer


def _joined(words, more):
    """A new dict with the words of both."""
    joined = {spot: words[spot] for spot in words}
    for spot in more:
        joined[spot] = more[spot]
    return joined


def _filling_of(task, words):
    """The filling that a dict with a word for each (place, thing) tells."""
    things = range(task.table.things)
    places = range(task.web.places)
    return tuple([tuple([thing for thing in things if words[(place, thing)] == "in"]) for place in places])
