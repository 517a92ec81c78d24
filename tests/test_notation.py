"""The module notation: format_rule, parse_rule, format_calendar and parse_calendar."""

import random
import sys
import unittest

from daychains.calendars import Calendar
from daychains.errors import InvalidPattern, InvalidRule, InvalidStretches, ParseError
from daychains.notation import format_calendar, format_rule, parse_calendar, parse_rule
from daychains.words import is_written_integer, read_integer, written_integer
from model import FAR, some_pattern, some_rule, some_stretches
from values import ANY_VALUES, NO_LISTS, NO_STRINGS, NOT_RULES

HUGE = 10 ** 5000


def index_of(function, text):
    """Return the index of the ParseError that the text leads to."""
    try:
        function(text)
    except ParseError as error:
        return error.index
    raise AssertionError(f"{text!r} is in the notation")


class Rules(unittest.TestCase):
    def test_notation(self):
        for rule, text in [([], "."), (["+"], "+"), (["ny"], "ny"), (["ny", "+", "ny"], "ny + ny"),
                           (["a", "a", "+", "+", "abcdefgh"], "a a + + abcdefgh"), (["o"], "o")]:
            with self.subTest(text=text):
                self.assertEqual(format_rule(rule), text)
                self.assertEqual(parse_rule(text), rule)
        self.assertEqual(format_rule(rule=["ny", "+"]), "ny +")
        self.assertEqual(parse_rule(text="ny +"), ["ny", "+"])

    def test_there_and_back(self):
        source = random.Random(401)
        for _ in range(300):
            rule = some_rule(source, ["a", "ny", "ldn", "abcdefgh", "+"], 200)
            self.assertEqual(parse_rule(format_rule(rule)), rule)

    def test_first_wrong_word(self):
        for text, index in [
                ("", 0), (" ", 0), ("  ", 0), (" ny", 0), ("ny ", 1), ("ny  ny", 1), ("ny + ", 2), ("ny +  ny", 2),
                (". ny", 0), ("ny .", 1), (". .", 0), ("..", 0), (" .", 0), (". ", 0), ("Ny", 0), ("ny Ldn", 1),
                ("ny ++", 1), ("n+", 0), ("ny\t+", 0), ("ny +\n", 1), ("\n", 0), ("ny\n", 0), ("ny\n+", 0), ("ny -", 1),
                ("abcdefghi", 0), ("a abcdefghi +", 1), ("ny, +", 0), ("ny + 0", 2), ("a " * 1400 + "1", 1400),
                ("a" * 3000, 0), (";", 0), ("a ; b", 1), ("\u00e9", 0), ("ny\u00a0ny", 0)]:
            with self.subTest(text=text):
                self.assertEqual(index_of(parse_rule, text), index)

    def test_any_value(self):
        for number, value in enumerate(NO_STRINGS + [["ny"], ["."], ("ny", "+"), b"ny"]):
            with self.subTest(number):
                self.assertIsNone(index_of(parse_rule, value))
        for number, value in enumerate(NOT_RULES):
            with self.subTest(number):
                self.assertRaises(InvalidRule, format_rule, value)

    def test_lists(self):
        rule = ["ny", "+"]
        format_rule(rule)
        self.assertEqual(rule, ["ny", "+"])
        for text in (".", "ny"):
            found = parse_rule(text)
            found.append("x")
            self.assertEqual(parse_rule(text), found[:-1])


class Calendars(unittest.TestCase):
    def test_notation(self):
        for pattern, closed, opened, text in [
                ("o", [], [], "o"), ("o-o--oo-", [], [], "o-o--oo-"), ("oo", [(7, 7)], [], "oo closed 7 7"),
                ("o-", [], [(-3, 5)], "o- opened -3 5"), ("o", [(0, 0)], [(-7, -7)], "o closed 0 0 opened -7 -7"),
                ("ooooo--", [(7, 7)], [(-3, 5)], "ooooo-- closed 7 7 opened -3 5"),
                ("o", [(5, 9), (1, 2), (5, 9), (0, 7)], [(3, 4), (3, 3), (-1, 9)],
                 "o closed 5 9 closed 1 2 closed 5 9 closed 0 7 opened 3 4 opened 3 3 opened -1 9"),
                ("-o", [(-FAR, FAR)], [], f"-o closed -{FAR} {FAR}")]:
            with self.subTest(text=text):
                self.assertEqual(format_calendar(pattern, closed=closed, opened=opened), text)
                self.assertEqual(format_calendar(pattern, opened=tuple(opened), closed=tuple(closed)), text)
                self.assertEqual(parse_calendar(text), Calendar(pattern, closed=closed, opened=opened))
                self.assertEqual(parse_calendar(text).pattern, pattern)
        self.assertEqual(format_calendar("o"), "o")
        self.assertEqual(format_calendar(pattern="o-", closed=[(1, 2)]), "o- closed 1 2")
        self.assertEqual(parse_calendar(text="o-"), Calendar("o-"))

    def test_there_and_back(self):
        source = random.Random(402)
        for _ in range(100):
            pattern = some_pattern(source)
            closed = some_stretches(source, source.randint(0, 20), -50, 50, 20)
            opened = some_stretches(source, source.randint(0, 20), -FAR, FAR, FAR)
            calendar = parse_calendar(format_calendar(pattern, closed=closed, opened=opened))
            self.assertEqual(calendar, Calendar(pattern, closed=closed, opened=opened))
            self.assertEqual(calendar.pattern, pattern)

    def test_first_wrong_word(self):
        for text, index in [
                ("", 0), (" ", 0), ("-", 0), ("x", 0), ("ooooooooo", 0), ("O", 0), ("o\n", 0), (" o", 0), ("closed", 0),
                ("o ", 1), ("o  closed 1 2", 1), ("o shut", 1), ("o o", 1), ("o 1 2", 1), ("o Closed 1 2", 1),
                ("o closed", 2), ("o closed ", 2), ("o closed x", 2), ("o closed 01 2", 2), ("o closed -0 2", 2),
                ("o closed closed", 2), ("o closed  7", 2), ("o closed 7", 3), ("o closed 7 ", 3), ("o closed 7 x", 3),
                ("o closed 7 5", 3), ("o closed 7 5 closed", 3), ("o closed -7 -8", 3), ("o closed 7 07", 3),
                ("o closed 0 -0", 3), ("o closed 7 closed", 3), ("o closed 7 7 ", 4), ("o closed 7 7 8", 4),
                ("o closed 7 7 closed", 5), ("o closed 7 7 opened", 5), ("o opened 7", 3), ("o opened 7 6", 3),
                ("o opened 1 2 closed 3 4", 4), ("o opened 1 2 opened 3", 6), ("o closed 1 2 opened 1 2 closed 1 2", 7),
                ("o closed +7 8", 2), ("o closed 7 8.", 3), ("o closed 1_0 20", 2), ("o closed 7 7\n", 3),
                ("o closed 7\t7", 2), ("o closed 7 7 7 7", 4), ("o closed \u0663 9", 2), (". closed 1 2", 0)]:
            with self.subTest(text=text):
                self.assertEqual(index_of(parse_calendar, text), index)
                self.assertEqual(index_of(Calendar.read, text), index)

    def test_up_to_the_wrong_word_there_is_a_notation(self):
        # Each shorter list of words is the beginning of some notation, or is one.
        words = "o- closed -7 7 closed 0 0 opened 12 13 opened 5 5".split(" ")
        for size in range(1, len(words) + 1):
            text = " ".join(words[:size])
            if size % 3 == 1:
                parse_calendar(text)
            else:
                self.assertEqual(index_of(parse_calendar, text), size)

    def test_any_value(self):
        for number, value in enumerate(NO_STRINGS + [("o",), ["o"], b"o", Calendar("o")]):
            with self.subTest(number):
                self.assertIsNone(index_of(parse_calendar, value))
                self.assertIsNone(index_of(Calendar.read, value))

    def test_errors_of_calendars(self):
        for number, value in enumerate(ANY_VALUES):
            with self.subTest(number):
                if value != "o" or not isinstance(value, str):
                    self.assertRaises(InvalidPattern, format_calendar, value)
                    self.assertRaises(InvalidPattern, format_calendar, value, closed=None, opened=None)
        for number, value in enumerate([None, 7, "", [7], [(7,)], [(8, 7)], [[7, 8]], [(7, True)], {(7, 8)}, [None]]):
            with self.subTest(number):
                self.assertRaises(InvalidStretches, format_calendar, "o", closed=value)
                self.assertRaises(InvalidStretches, format_calendar, "o", opened=value)
        self.assertRaises(InvalidPattern, format_calendar, "-")
        self.assertRaises(TypeError, format_calendar, "o", [(1, 2)])
        for number, value in enumerate(NO_LISTS):
            with self.subTest(number):
                if not isinstance(value, tuple):
                    self.assertRaises(InvalidStretches, format_calendar, "o", opened=value)

    def test_arguments_stay(self):
        closed, opened = [(5, 9), (1, 2)], [(3, 4), (3, 3)]
        format_calendar("o", closed=closed, opened=opened)
        self.assertEqual((closed, opened), ([(5, 9), (1, 2)], [(3, 4), (3, 3)]))


class Integers(unittest.TestCase):
    def test_words(self):
        for word, number in [("0", 0), ("7", 7), ("-7", -7), ("10", 10), ("-100", -100), (str(FAR), FAR),
                             ("1" + "0" * 18, 10 ** 18), ("-1" + "0" * 17 + "1", -10 ** 18 - 1),
                             ("9" * 18, 10 ** 18 - 1), ("1" + "0" * 36, 10 ** 36), ("1" + "0" * 5000, HUGE),
                             ("-1" + "0" * 5000, -HUGE), ("9" * 5000, HUGE - 1)]:
            self.assertTrue(is_written_integer(word))
            self.assertEqual(read_integer(word), number)
            self.assertEqual(written_integer(number), word)

    def test_other_words(self):
        for word in ["", "-", "-0", "00", "07", "-07", "+7", "--7", "7-", "7.0", "7e3", " 7", "7 ", "7\n", "1_000",
                     "0x7", "seven", "\u0663", "\u00b2", "7,0", "0" * 3000]:
            self.assertFalse(is_written_integer(word))
            self.assertEqual(index_of(parse_calendar, "o closed " + word.replace(" ", "_") + " 9"), 2)

    def test_as_python_writes_them(self):
        source = random.Random(403)
        for size in [*range(1, 70), 600, 3000]:
            number = source.choice([1, -1]) * source.randrange(10 ** (size - 1), 10 ** size)
            self.assertEqual(written_integer(number), str(number))
            self.assertEqual(read_integer(str(number)), number)

    def test_very_many_digits(self):
        # More digits than Python itself reads or writes.
        self.assertGreater(5001, sys.get_int_max_str_digits())
        text = format_calendar("o", closed=[(-HUGE, HUGE)])
        self.assertEqual(len(text), len("o closed - ") + 2 * 5001)
        self.assertEqual(parse_calendar(text).next_open(0), HUGE + 1)


if __name__ == "__main__":
    unittest.main()
