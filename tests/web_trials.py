"""What the document says of webs and tasks, tried out in full: all sides, all fillings.

Nothing here calls the program but for making a Web or a Table, and nothing but their properties is read.
"""

import math
import random
from itertools import combinations, product

from tests import trials
from thingwise.tables import Table
from thingwise.webs import Web

GREAT = 10 ** 12 - 1
AT_MOST_ONE = Table(2, [(), (0,), (1,)])
EXAMPLE_WEB = Web(3, [(0, 1, 2), (1, 2, 3)])
EXAMPLE_PARTS = (((0, "in"), (1, "out")), (), ((0, "out"), (1, "in")))


def every_side(places):
    """All sides of so many places, ascending; a side is to places what a lot is to things."""
    return trials.every_lot(places)


def tried_cut(web, side):
    return sum(weight for low, high, weight in web.ties if (low in side) != (high in side))


def tried_least_sides(web, must, never):
    """The least cut, and the ascending list of all least sides."""
    between = [side for side in every_side(web.places) if set(must) <= set(side) and not set(never) & set(side)]
    cuts = {side: tried_cut(web, side) for side in between}
    least = min(cuts.values())
    return least, [side for side in between if cuts[side] == least]


def tried_worth(web, must, never, rows):
    """The worth of rows (place, other place, amount) of integers if they are a flow, otherwise None."""
    weights = {frozenset((low, high)): weight for low, high, weight in web.ties}
    pairs = [frozenset(row[:2]) for row in rows]
    if rows != sorted(rows) or len(set(pairs)) != len(pairs):
        return None
    if not all(pair in weights and 1 <= row[2] <= weights[pair] for pair, row in zip(pairs, rows)):
        return None
    for place in range(web.places):
        if place not in must and place not in never and more_out(rows, place) != 0:
            return None
    return sum(more_out(rows, place) for place in must)


def more_out(rows, place):
    return sum(row[2] for row in rows if row[0] == place) - sum(row[2] for row in rows if row[1] == place)


def tried_cost(web, filling):
    return sum(weight * len(set(filling[low]) ^ set(filling[high])) for low, high, weight in web.ties)


def tried_fillings(table, parts):
    """All fillings with lots of the table that fit the parts, ascending."""
    return sorted(product(*[[lot for lot in table.lots if trials.does_fit(lot, part)] for part in parts]))


def tried_best(table, web, parts):
    """The least cost of such a filling, and the ascending list of those that have it."""
    fillings = tried_fillings(table, parts)
    costs = [tried_cost(web, filling) for filling in fillings]
    return min(costs), [filling for filling, found in zip(fillings, costs) if found == min(costs)]


def tried_closures(table, parts):
    return tuple(trials.tried_closure(table.things, table.lots, part) for part in parts)


def tried_between(parts, thing):
    """Must and never of the thing, by the closures of the parts."""
    must = tuple(place for place, part in enumerate(parts) if (thing, "in") in part)
    return must, tuple(place for place, part in enumerate(parts) if (thing, "out") in part)


def all_small_webs():
    """All webs of one to three places with weights up to 2, and those of four places with weights up to 1."""
    for places, greatest in ((1, 2), (2, 2), (3, 2), (4, 1)):
        pairs = list(combinations(range(places), 2))
        for weights in product(range(greatest + 1), repeat=len(pairs)):
            yield Web(places, [pair + (weight,) for pair, weight in zip(pairs, weights)])


def chosen_webs(count, most):
    """Webs of up to so many places with few and many ties, of small and great weights, always the same ones."""
    chance = random.Random(31)
    for number in range(count):
        places = chance.randint(1, most)
        weights = ([1], [1, 2], [1, 2, 3, 5], [GREAT, GREAT - 1, 10 ** 11, 1])[number % 4]
        density = chance.choice((0.2, 0.4, 0.7, 1))
        yield Web(places, [pair + (chance.choice(weights),) for pair in combinations(range(places), 2)
                           if chance.random() < density])


def all_betweens(places):
    """All (must, never) of so many places."""
    for words in product((0, 1, 2), repeat=places):
        yield tuple(place for place in range(places) if words[place] == 1), tuple(
            place for place in range(places) if words[place] == 2)


def chosen_betweens(places, count):
    """Some (must, never), always the same ones, with few and with many places."""
    chance = random.Random(places)
    yield (), ()
    for number in range(count):
        words = [chance.choice((0, 0, 0, 1, 2)[number % 3:]) for _ in range(places)]
        yield tuple(place for place in range(places) if words[place] == 1), tuple(
            place for place in range(places) if words[place] == 2)


def webs_and_betweens():
    """Webs with must and never: all of small webs, some of webs of up to nine places."""
    for web in all_small_webs():
        for must, never in all_betweens(web.places):
            yield web, must, never
    for web in chosen_webs(60, 8):
        for must, never in chosen_betweens(web.places, 4):
            yield web, must, never
    for web in chosen_webs(12, 9):
        for must, never in ((0,), (web.places - 1,) if web.places > 1 else ()), ((), (0,)), ((0,), ()):
            yield web, must, never


def chosen_tasks(count, most):
    """(table, web, parts) for tasks with at most so many fillings, always the same ones."""
    chance = random.Random(47)
    tables = [AT_MOST_ONE] + list(trials.closed_tables(2))
    # Of the many small tables but some, so that the great ones count.
    tables = chance.sample(tables, min(len(tables), 60)) + [table for table in tables if table.things > 3]
    webs = [Web(1, []), Web(3, [])] + [web for web in chosen_webs(80, 6) if len(web) > 1]
    found = 0
    while found < count:
        table, web = chance.choice(tables), chance.choice(webs)
        parts = tuple(chosen_part(chance, table) for _ in range(web.places))
        if count_fillings(table, parts) <= most:
            found += 1
            yield table, web, parts


def open_tasks(count, most):
    """(table, web, parts) for tasks with at most so many fillings, of which many are best: weights of 1 alone."""
    chance = random.Random(71)
    tables = [table for table in trials.closed_tables(2) if len(table) > 3]
    row = [(place, place + 1, 1) for place in range(3)]
    ends = [(0, 2, 1), (0, 3, 1), (1, 2, 1), (1, 3, 1)]
    webs = [Web(2, []), Web(3, []), Web(4, row), Web(4, row + [(0, 3, 1)]), Web(4, ends), Web(5, ends), Web(5, row)]
    found = 0
    while found < count:
        table, web = chance.choice(tables), webs[found % len(webs)]
        known = [tuple(one for one in trials.every_literal(table.things) if trials.does_meet(lot, one))
                 for lot in (table.lots[0], table.lots[-1])]
        parts = tuple(known[place // 3] if place in (0, 3) else () for place in range(web.places))
        if count_fillings(table, parts) <= most:
            found += 1
            yield table, web, parts


def chosen_part(chance, table):
    """A part that can be in the table: nothing, some or all that a lot of it meets."""
    lot = chance.choice(table.lots)
    literals = [(thing, "in" if thing in lot else "out") for thing in range(table.things)]
    return tuple(sorted(chance.sample(literals, chance.choice((0, 0, 1, len(literals))))))


def count_fillings(table, parts):
    """The number of fillings with lots of the table that fit the parts."""
    return math.prod(len([lot for lot in table.lots if trials.does_fit(lot, part)]) for part in parts)


def every_wish(table, web):
    """All wishes for the table and the web, ascending."""
    return sorted(product(range(web.places), trials.every_literal(table.things)))


def does_meet_all(filling, wishes):
    return all(trials.does_meet(filling[place], literal) for place, literal in wishes)


def tried_extra(costs, wishes):
    """The price of the wishes by the costs of all fillings, None if no filling meets them."""
    met = [found for filling, found in costs.items() if does_meet_all(filling, wishes)]
    return min(met) - min(costs.values()) if met else None


def tried_barred(best, wishes):
    """The least one or two wishes that none of the best fillings meets together, None if one meets all of them."""
    if any(does_meet_all(filling, wishes) for filling in best):
        return None
    for size in (1, 2):
        for group in combinations(sorted(set(wishes)), size):
            if not any(does_meet_all(filling, group) for filling in best):
                return group
    raise AssertionError("any two wishes go together, but not all of them")


def chosen_wishes(table, web, count):
    """Lists of wishes, always the same ones: none, few and many, also twice and contrary ones, in any sequence."""
    chance = random.Random(53)
    wishes = every_wish(table, web)
    yield []
    for number in range(count):
        chosen = chance.choices(wishes, k=(1, 2, 3, 4, 6, 12)[number % 6])
        yield chosen + chosen[:number % 2]
    yield [(0, (0, "in")), (0, (0, "out"))]


def with_weight(web, place, other_place, weight):
    """The web in which the tie between both places has this weight."""
    ties = [tie for tie in web.ties if set(tie[:2]) != {place, other_place}]
    return Web(web.places, ties + [(place, other_place, weight)])


def tried_tie_numbers(web, must, never, ends):
    """(alike, apart) of a thing, from all its sides."""
    loose = with_weight(web, *ends, 0)
    cuts = {side: tried_cut(loose, side) for side in every_side(web.places)
            if set(must) <= set(side) and not set(never) & set(side)}
    on_one_hand = [found for side, found in cuts.items() if (ends[0] in side) == (ends[1] in side)]
    return min(on_one_hand, default=None), min(cuts.values())


def things_at_one_end(filling, place, other_place):
    return len(set(filling[place]) ^ set(filling[other_place]))


def chosen_forests(count, most):
    """Forests of up to so many places, always the same ones: rows, stars and others, in one piece and in several."""
    chance = random.Random(61)
    for number in range(count):
        places = chance.randint(1, most)
        weights = ([1, 2], [2], [1, 2, 3, 5, 8], [GREAT, GREAT - 1, 10 ** 11, 1])[number % 4]
        names = chance.sample(range(places), places)
        ties = []
        for k in range(1, places):
            ahead = (k - 1, 0, chance.randrange(k), chance.randrange(k))[number // 4 % 4]
            if number % 3 or chance.random() < 0.7:
                ties.append((names[k], names[ahead], chance.choice(weights)))
        yield Web(places, ties)


def chosen_forest_tasks(count, most):
    """(table, web, parts) for webs that are forests, always the same ones."""
    chance = random.Random(67)
    tables = [AT_MOST_ONE] + chance.sample(list(trials.closed_tables(2)), 40)
    for web in chosen_forests(count, most):
        table = chance.choice(tables)
        yield table, web, tuple(chosen_part(chance, table) for _ in range(web.places))


def tried_message(web, must, never, place, other_place):
    """What it costs more, on the place's side of the tie and at the tie, if the other place lacks the thing than if it
    has it, from all sides."""
    beyond, growing = {place}, True
    while growing:
        near = {end for low, high, _ in web.ties for end in (low, high) if {low, high} & beyond}
        growing = not near - {other_place} <= beyond
        beyond |= near - {other_place}
    kept = Web(web.places, [tie for tie in web.ties if beyond & set(tie[:2])])
    costs = {True: [], False: []}
    for side in every_side(web.places):
        if set(must) & beyond <= set(side) and not set(never) & beyond & set(side):
            costs[other_place in side].append(tried_cut(kept, side))
    return min(costs[False]) - min(costs[True])
