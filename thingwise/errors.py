"""The errors of the package: all of them are ThingErrors, none is under another one."""


class ThingError(ValueError):
    """Any error that this package raises."""


class InvalidThings(ThingError):
    """A number of things is no integer from 1 on."""


class InvalidTable(ThingError):
    """A value is no Table, or no lots of a Table can be made of it."""


class InvalidLot(ThingError):
    """A value is no lot, or none of the things at hand."""


class InvalidLiteral(ThingError):
    """A value is no literal, or none of the things at hand."""


class InvalidThing(ThingError):
    """A value is no thing of the table."""


class InvalidRules(ThingError):
    """A value is no list of rules of the things at hand."""


class InvalidPart(ThingError):
    """A value is no part, or none of the things at hand."""


class InvalidPlaces(ThingError):
    """A number of places is no integer from 1 on."""


class InvalidTies(ThingError):
    """A value is no list of ties of the places at hand."""


class InvalidWeb(ThingError):
    """A value is no Web."""


class InvalidPlace(ThingError):
    """A value is no place of the web, or not one that may stand there."""


class InvalidWeight(ThingError):
    """A weight is no integer from 0 on."""


class InvalidSide(ThingError):
    """A value is no side of the web, or not one that may stand there."""


class InvalidOrder(ThingError):
    """A value does not have each place of the web once."""


class InvalidParts(ThingError):
    """A value is no tuple with a part for each place of the web."""


class InvalidFilling(ThingError):
    """A value is no filling of the web."""


class InvalidTask(ThingError):
    """A value is no Task."""


class InvalidWishes(ThingError):
    """A value is no list of wishes of the task."""


class NoLot(ThingError):
    """No lot does what is asked for."""


class NotClosed(ThingError):
    """A table is not closed."""


class CannotBe(ThingError):
    """The part of this place cannot be in the table."""

    def __init__(self, place):
        self.place = place


class NotBest(ThingError):
    """A filling is no best one of the task."""


class NotAForest(ThingError):
    """A web is no forest."""


class TooManyTies(ThingError):
    """A place has too many ties to be taken out."""


class NothingToUndo(ThingError):
    """No deed is left that could be taken back."""


class Refused(ThingError):
    """A deed is refused: it would bring the total to this amount."""

    def __init__(self, amount):
        self.amount = amount


class InvalidWords(ThingError):
    """The word at this spot cannot stand there."""

    def __init__(self, spot):
        self.spot = spot


class InvalidCommand(ThingError):
    """A value is no command of the console."""


class NotReady(ThingError):
    """The console has no board yet."""
