"""Calendar: nth_open, count_open and open_days."""

import random
import unittest
from itertools import islice

from daychains.calendars import Calendar
from daychains.errors import InvalidDay, InvalidNumber
from model import FAR, days_about, far_pairs, small_pairs
from values import NO_INTEGERS


class NthOpen(unittest.TestCase):
    def test_from_any_day(self):
        calendar = Calendar("ooooo--", closed=[(7, 8)], opened=[(12, 12)])
        self.assertEqual([calendar.nth_open(4, number) for number in range(6)], [4, 9, 10, 11, 12, 14])
        self.assertEqual([calendar.nth_open(5, number) for number in range(6)], [9, 10, 11, 12, 14, 15])
        self.assertEqual([calendar.nth_open(-2, number) for number in range(6)], [0, 1, 2, 3, 4, 9])

    def test_by_name(self):
        self.assertEqual(Calendar("o-").nth_open(number=2, day=1), 6)

    def test_far(self):
        calendar = Calendar("ooooo--")
        self.assertEqual(calendar.nth_open(0, FAR), FAR // 5 * 7)
        self.assertEqual(calendar.nth_open(-7 * FAR, FAR), FAR // 5 * 7 - 7 * FAR)

    def test_over_long_stretches(self):
        calendar = Calendar("o-", closed=[(0, FAR)], opened=[(FAR, 3 * FAR)])
        self.assertEqual(calendar.nth_open(0, 0), FAR + 1)
        self.assertEqual(calendar.nth_open(0, FAR - 1), 2 * FAR)
        self.assertEqual(calendar.nth_open(-2, FAR), 2 * FAR)
        self.assertEqual(calendar.nth_open(FAR + 5, FAR), 2 * FAR + 5)
        self.assertEqual(calendar.nth_open(2 * FAR, FAR), 3 * FAR)
        self.assertEqual(calendar.nth_open(2 * FAR + 1, FAR), 3 * FAR + 2)

    def test_limits_of_the_number(self):
        calendar = Calendar("o")
        self.assertEqual([calendar.nth_open(3, 0), calendar.nth_open(3, FAR)], [3, FAR + 3])
        for number in (-1, FAR + 1, -FAR):
            self.assertRaises(InvalidNumber, calendar.nth_open, 3, number)

    def test_wrong_values(self):
        calendar = Calendar("o-")
        for number, value in enumerate(NO_INTEGERS):
            with self.subTest(number), self.assertRaises(InvalidNumber):
                calendar.nth_open(3, value)
            with self.subTest(number), self.assertRaises(InvalidDay):
                calendar.nth_open(value, 3)
            with self.subTest(number), self.assertRaises(InvalidDay):
                calendar.nth_open(value, value)

    def test_the_day_is_judged_first(self):
        self.assertRaises(InvalidDay, Calendar("o").nth_open, True, -1)

    def test_against_the_definition_near(self):
        for calendar, model in small_pairs(11, 120):
            days = [day for day in range(-50, 200) if model.is_open(day)]
            for start in range(-45, 40, 3):
                left = [day for day in days if day >= start][:8]
                self.assertEqual([calendar.nth_open(start, number) for number in range(len(left))], left)

    def test_against_the_definition_far(self):
        source = random.Random(12)
        for calendar, model in far_pairs(13, 25):
            for day in days_about(source, model, 8):
                number = source.choice([0, 1, 5, source.randint(0, FAR), FAR])
                found = calendar.nth_open(day, number)
                self.assertTrue(model.is_open(found))
                self.assertEqual(model.count(day, found), number + 1)


class CountOpen(unittest.TestCase):
    def test_small(self):
        calendar = Calendar("ooooo--", closed=[(7, 8)], opened=[(12, 13)])
        self.assertEqual([calendar.count_open(0, last) for last in range(15)],
                         [1, 2, 3, 4, 5, 5, 5, 5, 5, 6, 7, 8, 9, 10, 11])
        self.assertEqual(calendar.count_open(-7, -1), 5)
        self.assertEqual(calendar.count_open(-3, -3), 1)
        self.assertEqual(calendar.count_open(5, 5), 0)

    def test_last_before_first(self):
        calendar = Calendar("o", opened=[(3, 9)])
        for first, last in [(5, 4), (5, 0), (5, -20), (FAR, -FAR)]:
            self.assertEqual(calendar.count_open(first, last), 0)

    def test_by_name(self):
        self.assertEqual(Calendar("o-").count_open(last=8, first=1), 4)

    def test_far(self):
        calendar = Calendar("o-", closed=[(0, FAR)], opened=[(FAR, 3 * FAR)])
        self.assertEqual(calendar.count_open(-FAR, -1), FAR // 2)
        self.assertEqual(calendar.count_open(-1, FAR), 0)
        self.assertEqual(calendar.count_open(-2, 2 * FAR), FAR + 1)
        self.assertEqual(calendar.count_open(-FAR, 5 * FAR), FAR // 2 + 2 * FAR + FAR)

    def test_wrong_values(self):
        calendar = Calendar("o-")
        for number, value in enumerate(NO_INTEGERS):
            for first, last in [(value, 3), (3, value), (value, value)]:
                with self.subTest(number), self.assertRaises(InvalidDay):
                    calendar.count_open(first, last)

    def test_against_the_definition_near(self):
        for calendar, model in small_pairs(14, 60):
            for first in range(-40, 50, 7):
                for last in range(first - 2, 60, 5):
                    self.assertEqual(calendar.count_open(first, last),
                                     sum(model.is_open(day) for day in range(first, last + 1)))

    def test_against_the_definition_far(self):
        source = random.Random(15)
        for calendar, model in far_pairs(16, 25):
            days = days_about(source, model, 10)
            for first, last in zip(days, reversed(days)):
                self.assertEqual(calendar.count_open(first, last), model.count(first, last) if first <= last else 0)


class OpenDays(unittest.TestCase):
    def test_small(self):
        calendar = Calendar("ooooo--", closed=[(7, 8)], opened=[(12, 12)])
        self.assertEqual(list(islice(calendar.open_days(3), 8)), [3, 4, 9, 10, 11, 12, 14, 15])
        self.assertEqual(list(islice(calendar.open_days(day=5), 2)), [9, 10])
        self.assertEqual(list(islice(calendar.open_days(-8), 3)), [-7, -6, -5])

    def test_without_end(self):
        days = Calendar("-o").open_days(0)
        self.assertEqual(sum(1 for _ in islice(days, 3000)), 3000)
        self.assertEqual(next(days), 6001)

    def test_is_a_generator(self):
        days = Calendar("o").open_days(1)
        self.assertIs(iter(days), days)
        self.assertEqual([next(days), next(days)], [1, 2])

    def test_generators_do_not_disturb_each_other(self):
        calendar = Calendar("o-")
        one, two = calendar.open_days(0), calendar.open_days(5)
        self.assertEqual([next(one), next(two), next(one), next(two)], [0, 6, 2, 8])

    def test_over_long_stretches(self):
        calendar = Calendar("o", closed=[(0, FAR), (FAR + 2, 3 * FAR)])
        self.assertEqual(list(islice(calendar.open_days(-2), 5)), [-2, -1, FAR + 1, 3 * FAR + 1, 3 * FAR + 2])

    def test_wrong_days(self):
        for number, value in enumerate(NO_INTEGERS):
            with self.subTest(number), self.assertRaises(InvalidDay):
                next(Calendar("o").open_days(value))

    def test_against_the_definition(self):
        for calendar, model in small_pairs(17, 60):
            expected = [day for day in range(-40, 300) if model.is_open(day)][:30]
            self.assertEqual(list(islice(calendar.open_days(-40), 30)), expected)


if __name__ == "__main__":
    unittest.main()
