"""Point 2 and the interface: the errors and their fields."""

import unittest

from cellvouch import errors
from cellvouch.errors import NoDeed, NoName, NoNeed, NoRow, NoText, VouchError

KINDS = (NoText, NoDeed, NoName, NoNeed, NoRow)


class Errors(unittest.TestCase):

    def test_family(self):
        self.assertEqual(VouchError.__bases__, (ValueError,))
        for kind in KINDS:
            self.assertTrue(issubclass(kind, VouchError))
            self.assertFalse([other for other in KINDS if other is not kind and issubclass(kind, other)])

    def test_all_stand_in_their_file(self):
        for kind in KINDS + (VouchError,):
            self.assertEqual(kind.__module__, "cellvouch.errors")
            self.assertIs(getattr(errors, kind.__name__), kind)

    def test_fields(self):
        self.assertEqual(NoName("abc").name, "abc")
        self.assertEqual(NoName(name=("a", [1])).name, ("a", [1]))
        self.assertEqual(NoNeed(3).row, 3)
        self.assertIsNone(NoNeed(row=None).row)

    def test_without_fields(self):
        for kind in (NoText, NoDeed, NoRow):
            self.assertEqual(vars(kind()), {})

    def test_caught_as_value_errors(self):
        for error in (NoText(), NoDeed(), NoName("a"), NoNeed(None), NoRow()):
            with self.assertRaises(ValueError):
                raise error
