"""Point [10]: the error classes."""

import unittest

from tandems import errors
from tests.support import odd_values

PLAIN = ["ByZero", "BadText", "Unlike", "OnlyJob", "NothingToUndo", "NothingToRedo"]
GIVEN = [
    "BadNumber", "BadLine", "BadServer", "BadJob", "BadArrivals", "BadAmount", "BadOrder",
    "BadTotals", "BadCount", "BadTriangle", "BadSides", "BadPlace", "BadDues", "BadTimes",
]


class Classes(unittest.TestCase):
    def test_base(self):
        self.assertEqual(errors.TandemsError.__bases__, (ValueError,))
        self.assertEqual(errors.TandemsError.__module__, "tandems.errors")

    def test_direct_subclasses(self):
        for name in PLAIN + GIVEN + ["TooMany"]:
            kind = getattr(errors, name)
            self.assertEqual(kind.__bases__, (errors.TandemsError,), name)
            self.assertEqual(kind.__module__, "tandems.errors", name)
            self.assertEqual(kind.__name__, name)

    def test_no_others(self):
        told = {name for name in vars(errors) if not name.startswith("_")}
        self.assertEqual(told, set(PLAIN + GIVEN + ["TooMany", "TandemsError"]))


class Attributes(unittest.TestCase):
    def test_without(self):
        for name in PLAIN:
            error = getattr(errors, name)()
            self.assertEqual(vars(error), {}, name)

    def test_given(self):
        for name in GIVEN:
            kind = getattr(errors, name)
            for value in odd_values():
                self.assertIs(kind(value).given, value, name)
                self.assertIs(kind(given=value).given, value, name)
                self.assertEqual(list(vars(kind(value))), ["given"], name)

    def test_count(self):
        for value in odd_values():
            self.assertIs(errors.TooMany(value).count, value)
            self.assertIs(errors.TooMany(count=value).count, value)
            self.assertEqual(list(vars(errors.TooMany(value))), ["count"])

    def test_kept_as_passed(self):
        given = [1, [2]]
        error = errors.BadLine(given)
        given.append(3)
        self.assertIs(error.given, given)

    def test_wrong_calls(self):
        for name in GIVEN + ["TooMany"]:
            kind = getattr(errors, name)
            self.assertRaises(TypeError, kind)
            self.assertRaises(TypeError, kind, 1, 2)


class Raised(unittest.TestCase):
    def test_caught_by_name_and_base(self):
        for name in GIVEN:
            kind = getattr(errors, name)
            for base in (kind, errors.TandemsError, ValueError):
                with self.assertRaises(base) as caught:
                    raise kind([1])
                self.assertEqual(caught.exception.given, [1])
        for name in PLAIN:
            kind = getattr(errors, name)
            for base in (kind, errors.TandemsError, ValueError):
                with self.assertRaises(base):
                    raise kind()

    def test_by_name_says_so_when_raised(self):
        with self.assertRaises(errors.TooMany) as caught:
            raise errors.TooMany(count=5)
        self.assertEqual(caught.exception.count, 5)
