"""Boards: tasks that grow by deeds, each of which can be taken back."""

from thingwise.errors import NothingToUndo, Refused
from thingwise.prices import lots_at, with_known
from thingwise.tables import check_table
from thingwise.tasks import Task, least_total
from thingwise.webs import check_web, with_tie


class Board:
    """A closed table and a web at which more and more becomes known, and ties get other weights."""

    def __init__(self, table, web):
        check_table(table)
        check_web(web)
        self._task = Task(table, web, ((),) * web.places)
        self._total = least_total(self._task)
        # What the task and the total were ahead of each deed.
        self._deeds = []

    @property
    def total(self):
        """The total."""
        return self._total

    @property
    def web(self):
        """The web as it is now."""
        return self._task.web

    @property
    def table(self):
        """The table of the allowed lots."""
        return self._task.table

    @property
    def parts(self):
        """The tuple of the closures of the parts, one for each place."""
        return self._task.parts

    def __len__(self):
        return len(self._deeds)

    def __eq__(self, other):
        return isinstance(other, Board) and self._task == other._task

    def know(self, place, literal):
        """Adds the literal to the part of the place; the total behind it."""
        return self._go_on(with_known(self._task, place, literal))

    def tie(self, place, other_place, weight):
        """Gives the tie between both places this weight; the total behind it."""
        return self._go_on(_with_tie(self._task, place, other_place, weight))

    def undo(self):
        """Takes back the last deed."""
        if len(self._deeds) == 0:
            raise NothingToUndo("there is no deed to be taken back")
        self._task, self._total = self._deeds.pop()

    def lots_there(self, place):
        """The ascending list of the lots that best fillings have at the place."""
        return lots_at(self._task, place)

    def as_task(self):
        """The Task as it is now."""
        return self._task

    def twin(self):
        """An equal Board that can take back the same deeds."""
        return self._copied_to(Board(self.table, self.web))

    def _go_on(self, task):
        """Does the deed that leads to this task; the total behind it."""
        total = least_total(task)
        self._deeds.append((self._task, self._total))
        self._task = task
        self._total = total
        return total

    def _copied_to(self, other):
        """The other board, made to stand as this one stands."""
        other._task = self._task
        other._total = self._total
        other._deeds = list(self._deeds)
        return other


class CalmBoard(Board):
    """A board that refuses each deed that would make the total greater."""

    def know(self, place, literal):
        """Adds the literal to the part of the place; the total behind it."""
        return self._go_calmly(with_known(self._task, place, literal))

    def tie(self, place, other_place, weight):
        """Gives the tie between both places this weight; the total behind it."""
        return self._go_calmly(_with_tie(self._task, place, other_place, weight))

    def undo(self):
        """Takes back the last deed, also if this makes the total greater."""
        super().undo()

    def twin(self):
        """An equal CalmBoard that can take back the same deeds."""
        return self._copied_to(CalmBoard(self.table, self.web))

    def _go_calmly(self, task):
        """Does the deed that leads to this task, unless the total behind it is greater."""
        amount = least_total(task)
        if amount > self._total:
            raise Refused(amount)
        return self._go_on(task)


def _with_tie(task, place, other_place, weight):
    """The Task in which the tie between both places has this weight."""
    return Task(task.table, with_tie(task.web, place, other_place, weight), task.parts)
