"""The classes of the module errors."""

import unittest

from daychains import errors

PLAIN = [
    "InvalidPattern", "InvalidStretches", "InvalidDay", "InvalidNumber", "InvalidOffice", "InvalidRule",
    "InvalidRules", "InvalidCalendars", "InvalidLog", "InvalidCommand", "NotBelow", "NoCommonDay",
    "NothingToUndo", "TooFar",
]
WITH_ATTRIBUTES = ["UnknownOffice", "LogClash", "TooMany", "ParseError"]


class Classes(unittest.TestCase):
    def test_base(self):
        self.assertEqual(errors.DayError.__bases__, (ValueError,))
        self.assertEqual(str(errors.DayError("why")), "why")

    def test_all_derive_directly_from_the_base(self):
        for name in PLAIN + WITH_ATTRIBUTES:
            with self.subTest(name):
                self.assertEqual(getattr(errors, name).__bases__, (errors.DayError,))

    def test_all_are_defined_in_the_module(self):
        for name in PLAIN + WITH_ATTRIBUTES + ["DayError"]:
            with self.subTest(name):
                self.assertEqual(getattr(errors, name).__module__, "daychains.errors")
                self.assertEqual(getattr(errors, name).__name__, name)

    def test_one_message(self):
        for name in PLAIN:
            with self.subTest(name):
                self.assertEqual(str(getattr(errors, name)("why")), "why")


class Attributes(unittest.TestCase):
    def test_unknown_office(self):
        self.assertEqual(errors.UnknownOffice("ny").office, "ny")
        self.assertEqual(errors.UnknownOffice(office="ny").office, "ny")

    def test_unknown_office_of_any_kind(self):
        for value in (None, 10 ** 5000, ["ny"], b"ny"):
            self.assertEqual(errors.UnknownOffice(value).office, value)

    def test_log_clash(self):
        clash = errors.LogClash(1, 2)
        self.assertEqual((clash.first, clash.second), (1, 2))
        clash = errors.LogClash(second=4, first=3)
        self.assertEqual((clash.first, clash.second), (3, 4))

    def test_too_many(self):
        self.assertEqual(errors.TooMany(400).limit, 400)
        self.assertEqual(errors.TooMany(limit=5).limit, 5)

    def test_parse_error(self):
        self.assertEqual(errors.ParseError(3).index, 3)
        self.assertEqual(errors.ParseError(index=0).index, 0)
        self.assertIsNone(errors.ParseError().index)

    def test_attributes_belong_to_each_error(self):
        first = errors.ParseError(1)
        errors.ParseError(2)
        self.assertEqual(first.index, 1)

    def test_they_can_be_raised_and_shown(self):
        for error in (errors.UnknownOffice("ny"), errors.LogClash(0, 1), errors.TooMany(400), errors.ParseError()):
            with self.assertRaises(errors.DayError) as caught:
                raise error
            self.assertNotEqual(str(caught.exception), "")


if __name__ == "__main__":
    unittest.main()
