"""Calendar.read: the notation of calendars."""

import random
import unittest

from daychains.calendars import Calendar
from daychains.errors import ParseError
from model import FAR, far_pairs, small_pairs
from values import NO_STRINGS, STRINGS

# Each text with the index of the first word for which no notation begins with the words up to it.
WRONG_TEXTS = [
    ("", 0), (" ", 0), ("x", 0), ("-", 0), ("ooooooooo", 0), ("O", 0), (" o", 0), ("o\n", 0), ("\to", 0),
    ("closed 1 2", 0), ("- closed 1 2", 0), (".", 0), ("o, closed 1 2", 0), ("  ", 0),
    ("o ", 1), ("o  ", 1), ("o o", 1), ("o shut", 1), ("o Closed 1 2", 1), ("o closed\n 1 2", 1), ("o 1 2", 1),
    ("o  closed 1 2", 1), ("o open 1 2", 1), ("o close 1 2", 1),
    ("o closed", 2), ("o opened", 2), ("o closed ", 2), ("o closed x", 2), ("o closed x y", 2), ("o closed  1 2", 2),
    ("o opened opened", 2),
    ("o closed 7", 3), ("o closed 7 ", 3), ("o closed 7 x", 3), ("o closed 7 5", 3), ("o closed 7 6 x", 3),
    ("o opened -5 -6", 3), ("o closed 7  8", 3), ("o closed 7 closed", 3), ("ooooo-- opened 0 -1", 3),
    ("o closed 7 7 ", 4), ("o closed 7 7\n", 3), ("o closed 7 7 8", 4), ("o closed 7 7  opened 1 2", 4),
    ("o opened 1 2 closed 3 4", 4), ("o opened 1 2 closed", 4), ("o opened 1 2 x", 4),
    ("o closed 1 2 opened", 5), ("o closed 1 2 closed", 5), ("o closed 1 2 opened 3", 6),
    ("o closed 1 2 opened 4 3 x", 6), ("o closed 1 2 opened 3 4 closed 5 6", 7), ("o closed 1 2 opened 3 4 opened", 8),
]
NO_INTEGERS = ["-0", "00", "01", "-01", "+1", "1.0", "1e3", "--1", "-", "1-", "1_000", "0x1", "1,", "one", "\t1", "1\n",
               "007", "-00", "1\t", "^1", "1+1", "\u0663", "\u00b2", "1\u0663",
               "\u22121"]
INTEGERS = [0, 1, -1, 9, 10, -10, 100, 9876543210, FAR, -FAR, 10 ** 31 - 1, -10 ** 31 + 1, 10 ** 3000, -10 ** 5000]


def written(number):
    """Write an integer in decimal digits, also one that is too long for `str`."""
    digits = ""
    rest = abs(number)
    while rest >= 10 ** 1000:
        digits = str(rest % 10 ** 1000).zfill(1000) + digits
        rest //= 10 ** 1000
    return ("-" if number < 0 else "") + str(rest) + digits


class Reads(unittest.TestCase):
    def test_patterns(self):
        for pattern in ["o", "-o", "ooooo--", "oooooooo", "-------o"]:
            self.assertEqual(Calendar.read(pattern), Calendar(pattern))
            self.assertEqual(Calendar.read(text=pattern).pattern, pattern)

    def test_stretches(self):
        self.assertEqual(Calendar.read("ooooo-- closed 7 7 opened -3 5"),
                         Calendar("ooooo--", closed=[(7, 7)], opened=[(-3, 5)]))
        self.assertEqual(Calendar.read("o- closed 4 9 closed -9 -7 closed 4 9"),
                         Calendar("o-", closed=[(4, 9), (-9, -7)]))
        self.assertEqual(Calendar.read("o- opened 9 11 opened 0 1"), Calendar("o-", opened=[(0, 1), (9, 11)]))
        self.assertEqual(Calendar.read("o- closed 0 4 opened 3 9"), Calendar("o-", closed=[(0, 4)], opened=[(3, 9)]))

    def test_integers(self):
        for number in INTEGERS:
            calendar = Calendar.read(f"-o closed {written(number)} {written(number + 4)}")
            self.assertEqual(calendar, Calendar("-o", closed=[(number, number + 4)]))
            calendar = Calendar.read(f"-o opened {written(number - 4)} {written(number)}")
            self.assertEqual(calendar, Calendar("-o", opened=[(number - 4, number)]))

    def test_result_is_new(self):
        self.assertIsNot(Calendar.read("o-"), Calendar.read("o-"))
        self.assertIs(type(Calendar.read("o-")), Calendar)

    def test_written_calendars(self):
        for pairs in (small_pairs(31, 40), far_pairs(32, 6)):
            for calendar, model in pairs:
                text = model.pattern
                text += "".join(f" closed {first} {last}" for first, last in model.closed)
                text += "".join(f" opened {first} {last}" for first, last in model.opened)
                self.assertEqual(Calendar.read(text), calendar)


class Refuses(unittest.TestCase):
    def wrong(self, text, index):
        with self.assertRaises(ParseError) as caught:
            Calendar.read(text)
        self.assertEqual(caught.exception.index, index)
        self.assertIsNot(type(caught.exception.index), bool)

    def test_no_strings(self):
        for number, value in enumerate(NO_STRINGS):
            with self.subTest(number):
                self.wrong(value, None)

    def test_wrong_texts(self):
        for text, index in WRONG_TEXTS:
            with self.subTest(text):
                self.wrong(text, index)

    def test_any_string(self):
        for text in STRINGS:
            with self.subTest(text):
                self.wrong(text, 0)

    def test_wrong_integers(self):
        for word in NO_INTEGERS:
            with self.subTest(word):
                self.wrong(f"o closed {word} 9", 2)
                self.wrong(f"o closed -9 {word}", 3)
                self.wrong(f"o closed 1 1 opened {word} 9", 5)
                self.wrong(f"o closed 1 1 opened -9 {word}", 6)
                self.wrong(f"o closed {word}", 2)

    def test_cut_after_each_word(self):
        words = "o-- closed -1 1 closed 5 5 opened 2 3 opened 9 20".split(" ")
        for count in range(1, len(words) + 1):
            if count % 3 == 1:
                Calendar.read(" ".join(words[:count]))
            else:
                self.wrong(" ".join(words[:count]), count)

    def test_one_wrong_word(self):
        source = random.Random(33)
        words = "o-- closed -1 1 closed 5 5 opened 2 3 opened 9 20".split(" ")
        for at in range(len(words)):
            for word in ["", "x", "o-o-o-o-o", "-0", "closing", "\n"]:
                behind = words[at + 1:][:source.randint(0, 20)]
                self.wrong(" ".join(words[:at] + [word] + behind), at)

    def test_much_too_long(self):
        self.wrong("o" + " closed 1 2" * 240 + " opened 1 2 closed 1 2", 724)
        self.wrong("o" + " opened 1 2" * 240 + " opened 1 0", 723)


if __name__ == "__main__":
    unittest.main()
