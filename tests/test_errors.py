"""Point [5]: the errors."""

import unittest

from owncuts import errors
from support import ANY_OBJECTS

WITH_VALUE = [
    "InvalidText", "InvalidWord", "InvalidNumber", "InvalidSigns", "InvalidGap", "InvalidGround", "InvalidWindow",
    "InvalidOrder", "InvalidRounds", "InvalidSets", "InvalidPlace", "InvalidCuts", "InvalidPieces", "InvalidTold",
    "InvalidRule", "InvalidRing", "InvalidView", "InvalidTwin", "InvalidEdit", "InvalidName", "InvalidHistory",
    "InvalidStore", "InvalidParcel", "InvalidDesk", "InvalidRecord", "InvalidScript", "InvalidPaper", "Refused",
]
WITHOUT_VALUE = ["NothingToUndo", "NothingToRedo"]


class Errors(unittest.TestCase):
    def test_each_is_derived_from_the_base_alone(self):
        for name in WITH_VALUE + WITHOUT_VALUE:
            self.assertEqual(getattr(errors, name).__bases__, (errors.CutError,), name)
        self.assertEqual(errors.CutError.__bases__, (ValueError,))

    def test_there_are_no_others(self):
        found = [name for name, thing in vars(errors).items() if isinstance(thing, type)]
        self.assertEqual(sorted(found), sorted(WITH_VALUE + WITHOUT_VALUE + ["CutError"]))

    def test_value_is_the_very_object(self):
        for name in WITH_VALUE:
            kind = getattr(errors, name)
            for value in ANY_OBJECTS + [object()]:
                self.assertIs(kind(value).value, value)
                self.assertIs(kind(value=value).value, value)

    def test_value_is_none_if_left_out(self):
        for name in WITH_VALUE:
            self.assertIsNone(getattr(errors, name)().value)

    def test_they_take_one_argument_at_most(self):
        for name in WITH_VALUE:
            with self.assertRaises(TypeError):
                getattr(errors, name)(1, 2)

    def test_base_and_last_two_are_made_of_nothing(self):
        for name in ["CutError"] + WITHOUT_VALUE:
            kind = getattr(errors, name)
            self.assertFalse(hasattr(kind(), "value"))
            with self.assertRaises(TypeError):
                kind(1)
            with self.assertRaises(TypeError):
                kind(value=1)

    def test_they_are_raised_and_caught(self):
        for name in WITH_VALUE + WITHOUT_VALUE:
            kind = getattr(errors, name)
            with self.assertRaises(ValueError) as told:
                raise kind()
            self.assertIs(type(told.exception), kind)


if __name__ == "__main__":
    unittest.main()
