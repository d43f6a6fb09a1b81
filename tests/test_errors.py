"""[3]: each refusal is a class of its own, straight below CutError."""

import unittest

from cutstree import errors
from cutstree.errors import CutError

BARE = ("NoWeight", "NoPlace", "NoSide", "NoFlow", "NotGreatest", "NoTree", "OnePlace", "InPieces", "NoChart",
        "NoGroups", "NoDemand", "NotThere")
FIELDS = {"NoTie": "at", "TooMany": "most", "NoLine": "at"}


def made():
    """One error of each of the fifteen classes, by its name."""
    bare = {name: getattr(errors, name)() for name in BARE}
    return {**bare, **{name: getattr(errors, name)(7) for name in FIELDS}}


class Errors(unittest.TestCase):
    def test_fifteen(self):
        self.assertEqual(len(made()), 15)

    def test_cut_error_stands_below_value_error(self):
        self.assertEqual(CutError.__bases__, (ValueError,))

    def test_each_stands_straight_below_cut_error(self):
        for name, error in made().items():
            with self.subTest(name):
                self.assertEqual(type(error).__bases__, (CutError,))
                self.assertIsInstance(error, CutError)
                self.assertIsInstance(error, ValueError)

    def test_none_is_of_another_class(self):
        for name, error in made().items():
            for other in made():
                with self.subTest(name, other=other):
                    self.assertEqual(isinstance(error, getattr(errors, other)), name == other)

    def test_fields(self):
        for name, field in FIELDS.items():
            for value in (0, 7, 16, 40, 60):
                with self.subTest(name, value=value):
                    self.assertEqual(getattr(getattr(errors, name)(value), field), value)

    def test_each_is_raised_and_taken_by_its_name(self):
        for name, error in made().items():
            with self.subTest(name):
                with self.assertRaises(getattr(errors, name)) as caught:
                    raise error
                self.assertIs(caught.exception, error)
