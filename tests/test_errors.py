"""The errors of the package, and their fields."""

import unittest

from nightslates import errors
from nightslates.errors import SlateError

FIELDS = {"BadHouse": ("clerk", None), "BadLot": None, "BadNumber": None, "BadRules": ("part", "signs"),
          "BadSlates": None, "BadNight": None, "TooMany": ("most", 7), "BadLine": ("line", 3), "BadCourses": None}


class Errors(unittest.TestCase):
    def test_base(self):
        self.assertEqual(SlateError.__bases__, (ValueError,))

    def test_direct_subclasses(self):
        for name in FIELDS:
            self.assertEqual(getattr(errors, name).__bases__, (SlateError,), name)

    def test_no_others(self):
        own = [name for name, value in vars(errors).items() if isinstance(value, type)]
        self.assertEqual(sorted(own), sorted(list(FIELDS) + ["SlateError"]))

    def test_fields(self):
        for name, field in FIELDS.items():
            if field is None:
                self.assertEqual(vars(getattr(errors, name)()), {}, name)
            else:
                key, value = field
                self.assertEqual(vars(getattr(errors, name)(value)), {key: value}, name)
                self.assertEqual(vars(getattr(errors, name)(**{key: value})), {key: value}, name)

    def test_clerk_may_be_none(self):
        self.assertIs(errors.BadHouse(None).clerk, None)
