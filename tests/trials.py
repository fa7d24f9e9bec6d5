"""What the document describes, tried out in full; nothing here calls the program but for making a Table."""

import random
from itertools import combinations, product

from thingwise.tables import Table


def every_lot(things):
    """All lots of so many things, ascending."""
    return sorted(lot for size in range(things + 1) for lot in combinations(range(things), size))


def every_literal(things):
    return sorted(product(range(things), ("in", "out")))


def every_rule(things):
    """All rules of so many things, sharp or not, ascending."""
    literals = every_literal(things)
    pairs = [pair for pair in combinations(literals, 2) if pair[0][0] != pair[1][0]]
    return sorted([(literal,) for literal in literals] + pairs)


def every_part(things):
    """All parts of so many things."""
    choices = [[(), ((thing, "in"),), ((thing, "out"),)] for thing in range(things)]
    return [sum(choice, ()) for choice in product(*choices)]


def does_meet(lot, literal):
    return literal[0] in lot if literal[1] == "in" else literal[0] not in lot


def does_keep(lot, rule):
    return any(does_meet(lot, literal) for literal in rule)


def does_fit(lot, part):
    return all(does_meet(lot, literal) for literal in part)


def tried_middle(lots):
    """The middle of three lots, by counting."""
    things = sorted({thing for lot in lots for thing in lot})
    return tuple(thing for thing in things if sum(lot.count(thing) for lot in lots) >= 2)


def as_number(lot):
    return sum(1 << thing for thing in lot)


def is_tried_closed(lots):
    """Whether the middle of any three of the lots is one of them."""
    numbers = [as_number(lot) for lot in lots]
    there = set(numbers)
    return all((a & b | a & c | b & c) in there for a, b, c in combinations(numbers, 3))


def tried_closed_lots(things, lots):
    """The lots with all middles of middles, ascending."""
    numbers = {as_number(lot) for lot in lots}
    while True:
        found = {a & b | a & c | b & c for a, b, c in combinations(sorted(numbers), 3)}
        if found <= numbers:
            return [lot for lot in every_lot(things) if as_number(lot) in numbers]
        numbers |= found


def tried_rules(things, lots):
    """The sharp rules, from a trial of all rules."""
    rules = [rule for rule in every_rule(things) if all(does_keep(lot, rule) for lot in lots)]
    return [rule for rule in rules if len(rule) == 1 or not any((literal,) in rules for literal in rule)]


def tried_closure(things, lots, part):
    """The closure of a part, None if no lot fits it."""
    fitting = [lot for lot in lots if does_fit(lot, part)]
    if not fitting:
        return None
    return tuple(literal for literal in every_literal(things) if all(does_meet(lot, literal) for lot in fitting))


def are_right_steps(lots, lot, steps):
    """Whether the steps, a list of tuples of three lots, lead from the lots to the lot."""
    made = list(lots)
    for step in steps:
        if len(step) != 3 or any(one not in made for one in step):
            return False
        made.append(tried_middle(step))
    return made[-1] == lot if steps else lot in lots


def small_lists_of_lots():
    """(things, lots) for all tables of one to three things."""
    for things in (1, 2, 3):
        lots = every_lot(things)
        for size in range(1, len(lots) + 1):
            for chosen in combinations(lots, size):
                yield things, list(chosen)


def greater_lists_of_lots(rounds):
    """(things, lots) for tables of four to six things with few, many and all lots, always the same ones."""
    chance = random.Random(20)
    for things in (4, 5, 6):
        lots = every_lot(things)
        yield things, list(lots)
        yield things, lots[1:]
        yield things, lots[:-1]
        for _ in range(rounds):
            yield things, chance.sample(lots, chance.randint(1, 6))
            yield things, chance.sample(lots, chance.randint(1, len(lots)))
            # Without chance no large table but the full one would be closed.
            rules = chance.sample(every_rule(things), chance.randint(1, 5))
            kept = [lot for lot in lots if all(does_keep(lot, rule) for rule in rules)]
            if kept:
                yield things, kept


def all_lists_of_lots(rounds):
    yield from small_lists_of_lots()
    yield from greater_lists_of_lots(rounds)


def closed_tables(rounds):
    """Closed Tables, small and great ones."""
    for things, lots in all_lists_of_lots(rounds):
        if is_tried_closed(lots):
            yield Table(things, lots)


def chosen_parts(things, count):
    """Some parts, always the same ones: all of them if there are no more than `count`."""
    parts = every_part(things)
    if len(parts) <= count:
        return parts
    return random.Random(things).sample(parts, count)
