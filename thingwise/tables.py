"""Tables of allowed lots: their middles, their rules, and whether they are closed."""

from thingwise.checks import check_lot, check_rules, check_things, is_lot
from thingwise.errors import InvalidTable, NoLot, NotClosed


class Table:
    """A number of things and one or more lots of them, the allowed ones."""

    def __init__(self, things, lots):
        check_things(things)
        if type(lots) is not list or len(lots) == 0:
            raise InvalidTable("the lots of a table must be a list of one or more lots")
        if not all([is_lot(lot, things) for lot in lots]):
            raise InvalidTable("the lots of a table must be lots of its things")
        self._things = things
        self._lots = tuple(sorted(set(lots)))

    @property
    def things(self):
        """The number of things."""
        return self._things

    @property
    def lots(self):
        """The ascending list of the lots."""
        return list(self._lots)

    def __len__(self):
        return len(self._lots)

    def __iter__(self):
        return iter(self._lots)

    def __contains__(self, value):
        # Python takes (True,) and (1,) for equal, so the kind is asked first.
        return is_lot(value, self._things) and value in self._lots

    def __eq__(self, other):
        return isinstance(other, Table) and self._things == other._things and self._lots == other._lots


def check_table(table):
    """Raises InvalidTable unless this is a Table."""
    if not isinstance(table, Table):
        raise InvalidTable("a table must be a Table")


def middle(lot, other_lot, third_lot):
    """The lot of all things that at least two of three lots of any things have."""
    check_lot(lot, None)
    check_lot(other_lot, None)
    check_lot(third_lot, None)
    with_first = [thing for thing in lot if thing in other_lot or thing in third_lot]
    without_first = [thing for thing in other_lot if thing in third_lot and thing not in lot]
    return tuple(sorted(with_first + without_first))


def meets(lot, literal):
    """Whether the lot meets the literal."""
    thing, word = literal
    return (thing in lot) == (word == "in")


def keeps(lot, rule):
    """Whether the lot keeps the rule."""
    return any([meets(lot, literal) for literal in rule])


def keeps_all(lot, rules):
    """Whether the lot keeps all of these rules."""
    for rule in rules:
        if not keeps(lot, rule):
            return False
    return True


def has_rule(table, rule):
    """Whether the rule is one of the table."""
    for lot in table:
        if not keeps(lot, rule):
            return False
    return True


def all_literals(things):
    """The ascending list of all literals of so many things."""
    return [(thing, word) for thing in range(things) for word in ("in", "out")]


def all_lots(things):
    """The list of all lots of so many things; the one at the index k has the things whose digits in k are 1."""
    lots = [()]
    for thing in range(things):
        lots = lots + [lot + (thing,) for lot in lots]
    return lots


def rules_of(table):
    """The ascending list of the sharp rules of the table."""
    check_table(table)
    literals = all_literals(table.things)
    single = [(literal,) for literal in literals if has_rule(table, (literal,))]
    # A rule of two literals is sharp only if neither of them is a rule alone.
    open_literals = [literal for literal in literals if (literal,) not in single]
    pairs = [(low, high) for low in open_literals for high in open_literals if low[0] < high[0]]
    return sorted(single + [pair for pair in pairs if has_rule(table, pair)])


def table_of(things, rules):
    """The Table of all lots of so many things that keep all rules."""
    check_things(things)
    check_rules(rules, things)
    lots = [lot for lot in all_lots(things) if keeps_all(lot, rules)]
    if len(lots) == 0:
        raise NoLot("no lot keeps all of these rules")
    return Table(things, lots)


def closed_table(table):
    """The least closed Table that has all lots of this one: by F1, what keeps all its rules."""
    check_table(table)
    return table_of(table.things, rules_of(table))


def is_closed(table):
    """Whether the table is closed."""
    return len(closed_table(table)) == len(table)


def check_closed(table):
    """Raises NotClosed unless the table is closed."""
    if not is_closed(table):
        raise NotClosed("the table is not closed")


def missing_middle(table):
    """Three lots of the table whose middle is not in it, or None if the table is closed."""
    check_table(table)
    missing = [lot for lot in closed_table(table) if lot not in table]
    if len(missing) == 0:
        return None
    # Nothing is made ahead of the first step, and each step makes a lot that was not there.
    return _steps_to(table, missing[0])[0]


def middles_to(table, lot):
    """Steps that make the lot as middle of middles of lots of the table, None if none do."""
    check_table(table)
    check_lot(lot, table.things)
    if lot in table:
        return []
    if lot not in closed_table(table):
        return None
    return _steps_to(table, lot)


def _steps_to(table, lot):
    """The steps to a lot that is in the least closed table above this one, but not in it."""
    made = table.lots
    steps = []
    _made_like(made, steps, lot, list(range(table.things)))
    return _needed_steps(steps, lot)


def _made_like(made, steps, lot, things):
    """One of the lots made so far that is like `lot` in all these things; makes it by new steps if there is none.

    Of three lots that are like `lot` in all these things but one each, another one each time,
    the middle is like it in all of them. This ends at two things at the latest: for these the
    table has such a lot, otherwise a rule of the table would forbid `lot`.
    Each step makes a lot that was not there, so there are fewer than 2 ** things of them.
    """
    for other in made:
        if _is_like(other, lot, things):
            return other
    without = [things[:k] + things[k + 1:] for k in range(3)]
    step = tuple([_made_like(made, steps, lot, fewer) for fewer in without])
    found = middle(*step)
    if found not in made:
        steps.append(step)
        made.append(found)
    return found


def _is_like(lot, other_lot, things):
    """Whether both lots have the same ones of these things."""
    for thing in things:
        if (thing in lot) != (thing in other_lot):
            return False
    return True


def _needed_steps(steps, lot):
    """The steps without those that the lot does not need; the last one makes the lot."""
    wanted = [lot]
    needed = []
    for step in reversed(steps):
        if middle(*step) in wanted:
            needed.append(step)
            wanted.extend(list(step))
    return needed[::-1]


def judge_middles(table, lot, value):
    """Whether any value is a list of steps from the table to the lot, of any length."""
    check_table(table)
    check_lot(lot, table.things)
    if type(value) is not list:
        return False
    if len(value) == 0:
        return lot in table
    made = table.lots
    for step in value:
        if not _is_step(step, made, table.things):
            return False
        made.append(middle(*step))
    return made[-1] == lot


def _is_step(value, made, things):
    """Whether any value is a tuple of three of the lots made so far."""
    if type(value) is not tuple or len(value) != 3:
        return False
    return all([is_lot(lot, things) and lot in made for lot in value])
