"""The classes of errors and their attributes."""

import unittest

from boxshift import errors

NAMES = [
    "BadFile", "BadShape", "BadRoom", "BadGaps", "BadShapes", "BadBox", "BadGrowth", "BadEdit", "NothingDone",
    "BadText", "TooLarge",
]


class ErrorsTest(unittest.TestCase):
    def test_base(self):
        self.assertEqual(errors.BoxError.__bases__, (ValueError,))

    def test_direct_subclasses(self):
        for name in NAMES:
            self.assertEqual(getattr(errors, name).__bases__, (errors.BoxError,), name)
        self.assertEqual({one.__name__ for one in errors.BoxError.__subclasses__()}, set(NAMES))

    def test_attributes_are_set_on_each_object(self):
        for error, attribute in [(errors.BadFile, "place"), (errors.BadShapes, "index"), (errors.BadText, "row")]:
            for value in [None, 0, 7]:
                self.assertEqual(vars(error(value)), {attribute: value})

    def test_the_others_have_no_attributes(self):
        for name in NAMES:
            if name not in ["BadFile", "BadShapes", "BadText"]:
                self.assertEqual(vars(getattr(errors, name)("why")), {}, name)

    def test_messages_are_strings(self):
        for error in [errors.BadFile, errors.BadShapes, errors.BadText]:
            self.assertIn("5", str(error(5)))
