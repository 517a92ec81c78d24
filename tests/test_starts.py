"""The module starts: latest_start and start_days."""

import random
import unittest

from daychains.calendars import Calendar
from daychains.errors import InvalidCalendars, InvalidDay, InvalidRule, UnknownOffice
from daychains.moves import moved
from daychains.starts import latest_start, start_days
from model import FAR, days_about, far_pairs, small_offices, some_rule, walked
from values import NO_INTEGERS, NOT_CALENDARS, NOT_RULES

OFFICES = {"ny": Calendar("ooooo--"), "ldn": Calendar("ooooo--", closed=[(7, 7)])}
RULE = ["ny", "+", "ny"]
FUNCTIONS = [latest_start, start_days]


class LatestStart(unittest.TestCase):
    def test_answers(self):
        self.assertEqual([latest_start(OFFICES, RULE, day) for day in range(3, 11)], [2, 3, 3, 3, 4, 7, 8, 9])
        self.assertEqual([latest_start(OFFICES, ["ldn"], day) for day in range(3, 10)], [3, 4, 4, 4, 4, 8, 9])
        self.assertEqual(latest_start(rule=["ldn", "ny"], day=7, calendars=OFFICES), 4)
        self.assertEqual(latest_start(OFFICES, ["ny", "ldn"], 8), 8)

    def test_rules_of_few_letters(self):
        for day in (-FAR, -1, 0, 5, 6, FAR):
            self.assertEqual(latest_start({}, [], day), day)
            self.assertEqual(latest_start(OFFICES, [], day), day)
            self.assertEqual(latest_start({}, ["+"], day), day - 1)
            self.assertEqual(latest_start({}, ["+"] * 200, day), day - 200)
            self.assertEqual(latest_start(OFFICES, ["ny"], day), OFFICES["ny"].last_open(day))

    def test_the_order_of_the_letters(self):
        calendars = {"a": Calendar("-o"), "b": Calendar("--o")}
        self.assertEqual([latest_start(calendars, ["a", "b"], day) for day in range(2, 8)], [1, 1, 1, 5, 5, 5])
        self.assertEqual([latest_start(calendars, ["b", "a"], day) for day in range(2, 8)], [-1, 2, 2, 5, 5, 5])
        self.assertEqual([latest_start(calendars, ["+", "b"], day) for day in range(2, 8)], [1, 1, 1, 4, 4, 4])
        self.assertEqual([latest_start(calendars, ["b", "+"], day) for day in range(2, 8)], [-1, 2, 2, 2, 5, 5])

    def test_day_by_day(self):
        source = random.Random(251)
        for calendars, models in small_offices(252, 60):
            for _ in range(6):
                rule = some_rule(source, "abc+", 8)
                day = source.randint(-40, 40)
                start = day
                while walked(models, rule, start) > day:
                    start -= 1
                self.assertEqual(latest_start(calendars, rule, day), start)

    def test_all_days_up_to_the_latest_one(self):
        # Guarantee (c).
        source = random.Random(253)
        for calendars, models in small_offices(254, 40):
            rule = some_rule(source, "abc+", 8)
            day = source.randint(-30, 30)
            start = latest_start(calendars, rule, day)
            for before in range(start - 60, start + 1):
                self.assertLessEqual(walked(models, rule, before), day)
            for behind in range(start + 1, start + 40):
                self.assertGreater(walked(models, rule, behind), day)


class StartDays(unittest.TestCase):
    def test_answers(self):
        self.assertEqual([start_days(OFFICES, RULE, day) for day in range(3, 10)],
                         [(2, 2), (3, 3), None, None, (4, 4), (5, 7), (8, 8)])
        self.assertEqual(start_days(rule=["ldn"], day=8, calendars=OFFICES), (5, 8))
        self.assertIsNone(start_days(OFFICES, ["ldn"], 7))
        self.assertIs(type(start_days(OFFICES, ["ldn"], 8)), tuple)

    def test_rules_of_few_letters(self):
        for day in (-FAR, -1, 0, 4, FAR):
            self.assertEqual(start_days({}, [], day), (day, day))
            self.assertEqual(start_days(OFFICES, [], day), (day, day))
            self.assertEqual(start_days({}, ["+"], day), (day - 1, day - 1))
            self.assertEqual(start_days({}, ["+"] * 200, day), (day - 200, day - 200))
        self.assertEqual([start_days(OFFICES, ["ny"], day) for day in (4, 5, 6, 7)], [(4, 4), None, None, (5, 7)])
        self.assertEqual([start_days({"a": Calendar("o")}, ["a", "a"], day) for day in (-1, 0)], [(-1, -1), (0, 0)])

    def test_day_by_day(self):
        source = random.Random(255)
        for calendars, models in small_offices(256, 60):
            rule = some_rule(source, "abc+", 8)
            days = range(-150, 120)
            reached = [walked(models, rule, day) for day in days]
            for goal in range(-20, 30):
                starts = [day for day, found in zip(days, reached) if found == goal]
                expected = (starts[0], starts[-1]) if starts else None
                self.assertEqual(start_days(calendars, rule, goal), expected)


class FarDays(unittest.TestCase):
    def test_long_stretches(self):
        calendars = {"a": Calendar("o", closed=[(-FAR, FAR)]), "b": Calendar("-o", opened=[(-FAR, 0)])}
        self.assertEqual(latest_start(calendars, ["a"], FAR), -FAR - 1)
        self.assertEqual(latest_start(calendars, ["a", "+"], FAR + 2), FAR + 1)
        self.assertEqual(start_days(calendars, ["a"], FAR + 1), (-FAR, FAR + 1))
        self.assertEqual(start_days(calendars, ["+", "a", "+"], FAR + 2), (-FAR - 1, FAR))
        self.assertIsNone(start_days(calendars, ["a"], FAR))
        self.assertEqual(start_days(calendars, ["b"], -FAR), (-FAR, -FAR))
        self.assertEqual(start_days(calendars, ["b"], FAR + 1), (FAR, FAR + 1))

    def test_against_moved(self):
        source = random.Random(257)
        pairs = list(far_pairs(258, 9))
        for number in range(0, 9, 3):
            calendars = dict(zip("abc", [pair[0] for pair in pairs[number:number + 3]]))
            for day in days_about(source, pairs[number][1], 20):
                rule = some_rule(source, "abc+")
                start = latest_start(calendars, rule, day)
                self.assertLessEqual(moved(calendars, rule, start), day)
                self.assertGreater(moved(calendars, rule, start + 1), day)
                found = start_days(calendars, rule, day)
                self.assertEqual(found is None, moved(calendars, rule, start) < day)
                goal = moved(calendars, rule, day)
                first, last = start_days(calendars, rule, goal)
                self.assertTrue(first <= day <= last)
                self.assertEqual([moved(calendars, rule, near) for near in (first, last)], [goal, goal])
                self.assertLess(moved(calendars, rule, first - 1), goal)
                self.assertGreater(moved(calendars, rule, last + 1), goal)

    def test_longest_rules(self):
        calendars = {"a": Calendar("o-"), "b": Calendar("-o")}
        self.assertEqual(latest_start(calendars, ["b", "a"] * 100, 200), 1)
        self.assertEqual(start_days(calendars, ["b", "a"] * 100, 200), (0, 1))
        self.assertEqual(start_days(calendars, ["b", "+"] * 100, FAR), (FAR - 200, FAR - 199))
        self.assertIsNone(start_days(calendars, ["b", "a"] * 100, 201))


class Errors(unittest.TestCase):
    def test_calendars(self):
        for number, value in enumerate(NOT_CALENDARS):
            for function in FUNCTIONS:
                with self.subTest(number):
                    self.assertRaises(InvalidCalendars, function, value, ["ny"], 4)
                    self.assertRaises(InvalidCalendars, function, value, [], 4)

    def test_rules(self):
        for number, value in enumerate(NOT_RULES):
            for function in FUNCTIONS:
                with self.subTest(number):
                    self.assertRaises(InvalidRule, function, OFFICES, value, 4)

    def test_days(self):
        for number, value in enumerate(NO_INTEGERS):
            for function in FUNCTIONS:
                with self.subTest(number):
                    self.assertRaises(InvalidDay, function, OFFICES, ["ny"], value)
                    self.assertRaises(InvalidDay, function, {}, [], value)

    def test_first_unknown_office(self):
        for calendars, rule, office in [(OFFICES, ["ny", "+", "c", "ldn", "b"], "c"), ({}, ["+", "ny"], "ny"),
                                        (OFFICES, ["b", "ny", "a"], "b")]:
            for function in FUNCTIONS:
                with self.assertRaises(UnknownOffice) as caught:
                    function(calendars, rule, 4)
                self.assertEqual(caught.exception.office, office)

    def test_the_first_error_is_due(self):
        for function in FUNCTIONS:
            self.assertRaises(InvalidCalendars, function, {"ny": 1}, ["a", 1], None)
            self.assertRaises(InvalidRule, function, OFFICES, ["a", 1], None)
            self.assertRaises(UnknownOffice, function, OFFICES, ["ny", "a"], None)
            self.assertRaises(InvalidDay, function, OFFICES, ["ny"], True)

    def test_arguments_stay(self):
        calendars = dict(OFFICES)
        rule = ["ny", "ny", "+", "ldn"]
        for function in FUNCTIONS:
            self.assertEqual(function(calendars, rule, 4), function(calendars, rule, 4))
        self.assertEqual((list(calendars), calendars, rule), (["ny", "ldn"], OFFICES, ["ny", "ny", "+", "ldn"]))


if __name__ == "__main__":
    unittest.main()
