"""Calendar: how it is created, and which days are open."""

import random
import unittest

from daychains.calendars import Calendar
from daychains.errors import InvalidDay, InvalidPattern, InvalidStretches
from model import FAR, Model, both, days_about, far_pairs, small_pairs
from values import ANY_VALUES, INTEGERS, NO_INTEGERS, NO_STRINGS, ODD_VALUES, STRINGS, EqualToAll, IntLike

PATTERNS = ["o", "oo", "o-", "-o", "ooooo--", "-------o", "oooooooo", "-o-o-o-o"]
NO_PATTERNS = ["", "-", "--", "--------", "ooooooooo", "--------o", "O", "ox", "o ", " o", "o\n", "\no", "o-\t", "oo0",
               "ooooo-- closed", "o_"]
NO_STRETCHES = [
    [(7,)], [(7, 8, 9)], [()], [[7, 8]], [(8, 7)], [(FAR, -FAR)], [(1, 2), (4, 3)], [(True, 2)], [(0, True)],
    [(False, False)], [("1", 2)], [(1, "2")], [(None, None)], [((1, 1), 2)], [(1, IntLike())], [7], [7, 8], (7, 8),
    ((7, 8, 9),), ([7, 8],), ["78"], "ab", [b"ab"], [range(2)], [{7, 8}], {(7, 7)}, {(7, 7): 1}, [(7, 8), None],
    [(7, EqualToAll())],
]


class Creation(unittest.TestCase):
    def test_patterns(self):
        for pattern in PATTERNS:
            with self.subTest(pattern):
                self.assertEqual(Calendar(pattern).pattern, pattern)
                self.assertEqual(Calendar(pattern=pattern).pattern, pattern)

    def test_wrong_patterns(self):
        for number, value in enumerate(NO_PATTERNS + NO_STRINGS + STRINGS):
            with self.subTest(number), self.assertRaises(InvalidPattern):
                Calendar(value)

    def test_no_stretches(self):
        values = NO_STRETCHES + ODD_VALUES + STRINGS + INTEGERS
        for number, value in enumerate(values):
            with self.subTest(number), self.assertRaises(InvalidStretches):
                Calendar("o", closed=value)
            with self.subTest(number), self.assertRaises(InvalidStretches):
                Calendar("o", opened=value)
            with self.subTest(number), self.assertRaises(InvalidStretches):
                Calendar("o", closed=[(1, 2)], opened=value)

    def test_lists_and_tuples(self):
        listed = Calendar("o-", closed=[(2, 2), (4, 4)], opened=[(1, 1)])
        self.assertEqual(listed, Calendar("o-", closed=((2, 2), (4, 4)), opened=((1, 1),)))
        self.assertEqual(Calendar("o-", closed=(), opened=[]), Calendar("o-"))

    def test_first_error(self):
        for value in NO_STRETCHES:
            self.assertRaises(InvalidPattern, Calendar, "x", closed=value, opened=value)
        self.assertRaises(InvalidStretches, Calendar, "o", closed=[(1, 2)], opened=5)

    def test_parameters(self):
        with self.assertRaises(TypeError):
            Calendar("o", [(1, 2)])
        with self.assertRaises(TypeError):
            Calendar()

    def test_arguments_are_kept_as_they_are(self):
        closed = [(9, 9), (0, 3), (2, 5), (0, 3)]
        opened = [(4, 8), (-3, -1)]
        calendar = Calendar("o--", closed=closed, opened=opened)
        self.assertEqual(closed, [(9, 9), (0, 3), (2, 5), (0, 3)])
        self.assertEqual(opened, [(4, 8), (-3, -1)])
        closed.append((-9, 90))
        opened.clear()
        self.assertEqual([day for day in range(-4, 13) if calendar.is_open(day)], [-3, -2, -1, 6, 7, 8, 12])

    def test_pattern_is_the_given_one(self):
        self.assertEqual(Calendar("o-o-").pattern, "o-o-")
        self.assertEqual(Calendar("o", closed=[(0, 7)]).pattern, "o")

    def test_pattern_cannot_be_assigned(self):
        with self.assertRaises(AttributeError):
            Calendar("o").pattern = "oo"


class IsPattern(unittest.TestCase):
    def test_longest(self):
        self.assertEqual(Calendar.LONGEST, 8)
        self.assertEqual(Calendar("o").LONGEST, 8)

    def test_patterns(self):
        for pattern in PATTERNS:
            self.assertIs(Calendar.is_pattern(pattern), True)
            self.assertIs(Calendar("o").is_pattern(value=pattern), True)

    def test_any_value(self):
        for number, value in enumerate(NO_PATTERNS + ANY_VALUES):
            with self.subTest(number):
                self.assertIs(Calendar.is_pattern(value), False)

    def test_is_static(self):
        self.assertIsInstance(Calendar.__dict__["is_pattern"], staticmethod)
        self.assertIsInstance(Calendar.__dict__["read"], classmethod)
        self.assertIsInstance(Calendar.__dict__["pattern"], property)


class OpenDays(unittest.TestCase):
    def test_pattern_decides(self):
        calendar = Calendar("oo-o---")
        self.assertEqual([day for day in range(-7, 8) if calendar.is_open(day)], [-7, -6, -4, 0, 1, 3, 7])

    def test_opened_goes_before_the_pattern(self):
        calendar = Calendar("o---", opened=[(1, 2), (6, 6), (8, 8)])
        self.assertEqual([day for day in range(10) if calendar.is_open(day)], [0, 1, 2, 4, 6, 8])

    def test_closed_goes_before_opened(self):
        calendar = Calendar("-o", closed=[(3, 6), (1, 1)], opened=[(0, 4), (6, 8)])
        self.assertEqual([day for day in range(10) if calendar.is_open(day)], [0, 2, 7, 8, 9])

    def test_answers_are_booleans(self):
        calendar = Calendar("o-", closed=[(4, 4)], opened=[(3, 3)])
        for day, answer in [(0, True), (1, False), (3, True), (4, False)]:
            self.assertIs(calendar.is_open(day), answer)

    def test_next_and_last(self):
        calendar = Calendar("ooooo--", closed=[(7, 11)], opened=[(-2, -1)])
        self.assertEqual([calendar.next_open(day) for day in range(3, 16)],
                         [3, 4, 14, 14, 14, 14, 14, 14, 14, 14, 14, 14, 15])
        self.assertEqual([calendar.last_open(day) for day in range(3, 16)],
                         [3, 4, 4, 4, 4, 4, 4, 4, 4, 4, 4, 14, 15])
        self.assertEqual([calendar.last_open(day) for day in range(-4, 2)], [-4, -3, -2, -1, 0, 1])

    def test_by_name(self):
        calendar = Calendar("o-")
        self.assertEqual([calendar.is_open(day=1), calendar.next_open(day=1), calendar.last_open(day=1)], [False, 2, 0])

    def test_far_days(self):
        for far in (FAR, -FAR, 7 * 10 ** 30, -7 * 10 ** 40):
            calendar = Calendar("o-")
            self.assertEqual([calendar.is_open(far), calendar.is_open(far + 1)], [True, False])
            self.assertEqual([calendar.next_open(far + 1), calendar.last_open(far + 1)], [far + 2, far])

    def test_long_closed_stretch(self):
        calendar = Calendar("o-", closed=[(-FAR, FAR)])
        self.assertEqual([calendar.next_open(-FAR), calendar.next_open(0), calendar.next_open(FAR)], [FAR + 2] * 3)
        self.assertEqual([calendar.last_open(-FAR), calendar.last_open(0), calendar.last_open(FAR + 1)], [-FAR - 2] * 3)
        self.assertFalse(calendar.is_open(12))

    def test_long_opened_stretch(self):
        calendar = Calendar("-------o", opened=[(-FAR, FAR)])
        self.assertEqual([calendar.next_open(-FAR), calendar.next_open(1), calendar.next_open(FAR)], [-FAR, 1, FAR])
        self.assertEqual(calendar.next_open(FAR + 1), FAR + 7)
        self.assertEqual(calendar.last_open(-FAR - 1), -FAR - 1)
        self.assertEqual(calendar.last_open(-FAR - 2), -FAR - 9)

    def test_wrong_days(self):
        calendar = Calendar("o-", closed=[(0, 4)])
        for number, value in enumerate(NO_INTEGERS):
            for method in (calendar.is_open, calendar.next_open, calendar.last_open):
                with self.subTest(number), self.assertRaises(InvalidDay):
                    method(value)


class AgainstTheDefinition(unittest.TestCase):
    def check(self, calendar, model, days):
        for day in days:
            self.assertEqual(calendar.is_open(day), model.is_open(day))
            later = calendar.next_open(day)
            self.assertTrue(later >= day and model.is_open(later) and model.count(day, later) == 1)
            earlier = calendar.last_open(day)
            self.assertTrue(earlier <= day and model.is_open(earlier) and model.count(earlier, day) == 1)

    def test_near(self):
        for calendar, model in small_pairs(1, 150):
            self.check(calendar, model, range(-45, 60))

    def test_far(self):
        source = random.Random(2)
        for calendar, model in far_pairs(3, 25):
            self.check(calendar, model, days_about(source, model, 12))

    def test_most_stretches(self):
        closed = [(10 * number * FAR, 10 * number * FAR + 2 * FAR) for number in range(-100, 100)]
        opened = [(first + 2 * FAR - 3, last + 3 * FAR) for first, last in closed]
        calendar, model = both("--o-----", closed, opened)
        days = [end + step for stretch in closed + opened for end in stretch for step in (-1, 0, 1)]
        for day in days:
            self.assertEqual(calendar.is_open(day), model.is_open(day))
        self.check(calendar, model, days[::12])

    def test_most_stretches_within_each_other(self):
        closed = [(-number, number) for number in range(200)]
        opened = [(number - 300, 300 - number) for number in range(200)]
        calendar, _ = both("-o", closed, opened)
        self.assertEqual([day for day in range(-310, 310) if calendar.is_open(day)],
                         [day for day in range(-310, 310)
                          if 200 <= abs(day) <= 300 or abs(day) > 300 and day % 2 == 1])

    def test_order_of_stretches_does_not_matter(self):
        source = random.Random(4)
        for calendar, model in small_pairs(5, 60):
            source.shuffle(model.closed)
            source.shuffle(model.opened)
            other = Calendar(model.pattern, closed=model.closed, opened=model.opened)
            self.assertEqual(calendar, other)
            self.assertEqual([calendar.next_open(day) for day in range(-40, 50)],
                             [other.next_open(day) for day in range(-40, 50)])

    def test_the_model_counts(self):
        for _, model in small_pairs(6, 40):
            for first, last in [(-40, 50), (-3, 9), (5, 5)]:
                self.assertEqual(model.count(first, last), sum(model.is_open(day) for day in range(first, last + 1)))
        self.assertEqual(Model("o--").count(-3, 3), 3)


if __name__ == "__main__":
    unittest.main()
