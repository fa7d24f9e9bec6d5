"""Point 11: the errors."""

import unittest

from thingwise import errors
from thingwise.errors import CannotBe, InvalidWords, NoLot, Refused, ThingError

WITH_TEXT = """InvalidThings InvalidTable InvalidLot InvalidLiteral InvalidThing InvalidRules InvalidPart
    InvalidPlaces InvalidTies InvalidWeb InvalidPlace InvalidWeight InvalidSide InvalidOrder InvalidParts
    InvalidFilling InvalidTask InvalidWishes NoLot NotClosed NotBest NotAForest TooManyTies NothingToUndo
    InvalidCommand NotReady""".split()
WITH_FIELD = {"CannotBe": "place", "Refused": "amount", "InvalidWords": "spot"}
NAMES = WITH_TEXT + list(WITH_FIELD)


class ErrorsTest(unittest.TestCase):

    def test_there_are_twenty_nine(self):
        found = [name for name, value in vars(errors).items()
                 if isinstance(value, type) and issubclass(value, ThingError) and value is not ThingError]
        self.assertEqual(sorted(found), sorted(NAMES))
        self.assertEqual(len(NAMES), 29)

    def test_each_is_directly_under_thing_error(self):
        self.assertEqual(ThingError.__bases__, (ValueError,))
        for name in NAMES:
            self.assertEqual(getattr(errors, name).__bases__, (ThingError,), name)

    def test_none_is_under_another_one(self):
        for name in NAMES:
            for other in NAMES:
                under = issubclass(getattr(errors, name), getattr(errors, other))
                self.assertEqual(under, name == other, (name, other))

    def test_each_is_defined_in_its_file(self):
        for name in NAMES + ["ThingError"]:
            self.assertEqual(getattr(errors, name).__module__, "thingwise.errors")

    def test_made_with_one_text(self):
        for name in WITH_TEXT + ["ThingError"]:
            with self.assertRaises(ThingError) as caught:
                raise getattr(errors, name)("some text")
            self.assertEqual(str(caught.exception), "some text")

    def test_fields_hold_the_very_value(self):
        for name, field in WITH_FIELD.items():
            for value in (0, 7, 10 ** 39, -1, None, True, "", "7", (1, 2), [1, [2]], NoLot("x")):
                by_place = getattr(errors, name)(value)
                by_name = getattr(errors, name)(**{field: value})
                self.assertIs(getattr(by_place, field), value)
                self.assertIs(getattr(by_name, field), value)

    def test_fields_of_caught_errors(self):
        amount = 10 ** 39 + 1
        for made, field in ((CannotBe(amount), "place"), (CannotBe(place=amount), "place"),
                            (Refused(amount), "amount"), (Refused(amount=amount), "amount"),
                            (InvalidWords(amount), "spot"), (InvalidWords(spot=amount), "spot")):
            for caught_as in (ThingError, ValueError, type(made)):
                with self.assertRaises(caught_as) as caught:
                    raise made
                self.assertIs(getattr(caught.exception, field), amount)

    def test_fields_need_their_value(self):
        for name in WITH_FIELD:
            with self.assertRaises(TypeError):
                getattr(errors, name)()


if __name__ == "__main__":
    unittest.main()
