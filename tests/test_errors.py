"""The errors: their fields and their one base class (2)."""

import unittest

from samebytes import errors
from tests.helpers import HUGE, STRANGE

FIELDS = {
    "value": ["BadArgument", "BadMark", "UnknownMark", "BadName", "BadObject", "BadMap", "BadMarked", "BadChange",
              "BadValue", "BadPiece", "BadSteps"],
    "mark": ["MissingObject", "Unreachable"],
    "number": ["LimitExceeded", "UnknownVersion"],
    "name": ["UnknownName", "NameTaken"],
    "line": ["BadText", "BadCommand"],
    "index": ["NoPlace"],
    "clashes": ["Clash"],
}
PAIRS = [(name, field) for field, names in FIELDS.items() for name in names]


class TestErrors(unittest.TestCase):

    def test_there_are_just_these(self):
        told = [name for name, value in vars(errors).items() if isinstance(value, type)]
        self.assertEqual(sorted(told), sorted([name for name, _ in PAIRS] + ["GraphError", "NothingToUndo"]))

    def test_the_base_class(self):
        self.assertEqual(errors.GraphError.__bases__, (Exception,))
        self.assertIsInstance(errors.GraphError(), Exception)

    def test_each_stands_directly_under_it(self):
        for name in [name for name, _ in PAIRS] + ["NothingToUndo"]:
            with self.subTest(name):
                self.assertEqual(vars(errors)[name].__bases__, (errors.GraphError,))
                self.assertEqual(vars(errors)[name].__module__, "samebytes.errors")

    def test_the_field_by_position_and_by_name(self):
        for name, field in PAIRS:
            error = vars(errors)[name]
            for value in STRANGE + ["a", 0, 60, HUGE, [("a", ("root",))]]:
                with self.subTest(f"{name} {value.__class__}"):
                    self.assertEqual(list(vars(error(value))), [field])
                    self.assertIs(vars(error(value))[field], value)
                    self.assertIs(vars(error(**{field: value}))[field], value)

    def test_there_is_just_one_field(self):
        for name, field in PAIRS:
            error = vars(errors)[name]
            with self.subTest(name):
                self.assertRaises(TypeError, error)
                self.assertRaises(TypeError, error, 1, 2)
                self.assertRaises(TypeError, error, **{field: 1, "other": 2})

    def test_nothing_to_undo_has_no_field(self):
        self.assertEqual(vars(errors.NothingToUndo()), {})
        self.assertRaises(TypeError, errors.NothingToUndo, 1)

    def test_they_can_be_raised_and_caught(self):
        for name, _ in PAIRS:
            with self.subTest(name), self.assertRaises(errors.GraphError):
                raise vars(errors)[name](None)
        with self.assertRaises(errors.GraphError):
            raise errors.NothingToUndo()
