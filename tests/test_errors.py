"""Point 2 and the interface: the errors and their fields."""

import unittest

from cellvouch import errors, refusals
from cellvouch.errors import NoDeed, NoName, NoNeed, NoRow, NoText, VouchError
from cellvouch.refusals import NoLock, NoMark, NoRun, NoStart, NoWork, Over
from tests.samples import STRANGE

# Each class with the name of its field, or none.
OLD = ((NoText, None), (NoDeed, None), (NoName, "name"), (NoNeed, "row"), (NoRow, None))
NEW = ((NoWork, "name"), (NoLock, "name"), (NoStart, None), (NoRun, "asked"), (NoMark, "asked"), (Over, "asked"))
KINDS = OLD + NEW


class Errors(unittest.TestCase):

    def test_family(self):
        self.assertEqual(VouchError.__bases__, (ValueError,))
        for kind, _ in KINDS:
            self.assertEqual(kind.__bases__, (VouchError,))
            self.assertFalse([other for other, _ in KINDS if other is not kind and issubclass(kind, other)])

    def test_all_stand_in_their_file(self):
        for module, kinds in ((errors, OLD + ((VouchError, None),)), (refusals, NEW)):
            for kind, _ in kinds:
                self.assertEqual(kind.__module__, module.__name__)
                self.assertIs(getattr(module, kind.__name__), kind)

    def test_fields(self):
        for kind, field in KINDS:
            if field is not None:
                for thing in STRANGE + (3, "abc", ("a", [1])):
                    self.assertIs(getattr(kind(thing), field), thing)
                    self.assertIs(getattr(kind(**{field: thing}), field), thing)
                    self.assertEqual(list(vars(kind(thing))), [field])
                with self.assertRaises(TypeError):
                    kind()
            with self.assertRaises(TypeError):
                kind(other=1)

    def test_without_fields(self):
        for kind, field in KINDS:
            if field is None:
                self.assertEqual(vars(kind()), {})

    def test_caught_as_value_errors(self):
        for kind, field in KINDS:
            with self.assertRaises(ValueError):
                raise kind() if field is None else kind(1)
