"""The errors: their fields, and which class is under which."""

import unittest

from tests.support import own_objects, odd_objects
from vectorwidths import errors

WITH_VALUE = (
    "InvalidNumber InvalidName InvalidRef InvalidLine InvalidStatement InvalidLoop InvalidText InvalidPart "
    "InvalidBundles InvalidTerm InvalidRules InvalidEdit InvalidCommand InvalidCode").split()
ALL = [*WITH_VALUE, "WidthError", "UnknownCell", "TooMany", "NothingToUndo"]


class Errors(unittest.TestCase):
    def test_fields(self):
        for name in [*WITH_VALUE, "UnknownCell"]:
            kind = getattr(errors, name)
            for field in odd_objects() + own_objects() + [0, -1, 10 ** 199, kind, kind("a")]:
                self.assertIs(kind(field).value, field)
                self.assertIs(kind(value=field).value, field)

    def test_limit(self):
        for field in odd_objects() + own_objects() + [3]:
            self.assertIs(errors.TooMany(field).limit, field)
            self.assertIs(errors.TooMany(limit=field).limit, field)

    def test_nothing_to_undo_has_no_field(self):
        error = errors.NothingToUndo()
        self.assertFalse(hasattr(error, "value"))
        self.assertFalse(hasattr(error, "limit"))

    def test_a_field_is_needed(self):
        for name in [*WITH_VALUE, "UnknownCell", "TooMany"]:
            with self.assertRaises(TypeError):
                getattr(errors, name)()

    def test_bases(self):
        for name in WITH_VALUE:
            self.assertEqual(getattr(errors, name).__bases__, (errors.WidthError,), name)
        self.assertEqual(errors.WidthError.__bases__, (ValueError,))
        self.assertEqual(errors.UnknownCell.__bases__, (KeyError,))
        self.assertEqual(errors.TooMany.__bases__, (OverflowError,))
        self.assertEqual(errors.NothingToUndo.__bases__, (LookupError,))

    def test_none_is_under_another_one(self):
        for one in ALL:
            for other in ALL:
                if other not in (one, "WidthError"):
                    self.assertFalse(issubclass(getattr(errors, one), getattr(errors, other)), (one, other))
        for one in ("UnknownCell", "TooMany", "NothingToUndo"):
            self.assertFalse(issubclass(getattr(errors, one), errors.WidthError))

    def test_they_are_raised_and_caught(self):
        for name in ALL:
            kind = getattr(errors, name)
            error = kind() if name in ("NothingToUndo", "WidthError") else kind([name])
            with self.assertRaises(kind) as caught:
                raise error
            self.assertIs(caught.exception, error)


if __name__ == "__main__":
    unittest.main()
