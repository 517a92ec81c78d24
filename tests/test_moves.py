"""The module moves: moved and stops, and the errors of the whole module."""

import inspect
import random
import unittest

from daychains.calendars import Calendar
from daychains.errors import InvalidCalendars, InvalidDay, InvalidNumber, InvalidRule, UnknownOffice
from daychains.moves import moved, repeated, repeats_to, round_of, stops
from model import FAR, both, days_about, far_pairs, small_offices, some_rule, walked
from values import NO_INTEGERS, NOT_CALENDARS, NOT_RULES

OFFICES = {"ny": Calendar("ooooo--"), "ldn": Calendar("ooooo--", closed=[(7, 7)])}


def listed(calendars, rule, day):
    return list(stops(calendars, rule, day))


# Each function of the module, called with calendars, a rule, a day and good further arguments.
FUNCTIONS = [
    moved,
    listed,
    lambda calendars, rule, day: repeated(calendars, rule, day, 3),
    lambda calendars, rule, day: repeats_to(calendars, rule, day, 3),
    round_of,
]


class Moved(unittest.TestCase):
    def test_letters(self):
        self.assertEqual([moved(OFFICES, ["ny"], day) for day in range(8)], [0, 1, 2, 3, 4, 7, 7, 7])
        self.assertEqual([moved(OFFICES, ["+"], day) for day in (-1, 0, FAR)], [0, 1, FAR + 1])
        self.assertEqual(moved(OFFICES, ["ny", "ldn"], 5), 8)
        self.assertEqual(moved(OFFICES, ["ldn", "ny"], 5), 8)
        self.assertEqual(moved(OFFICES, ["ny", "+", "+", "ny"], 4), 7)
        self.assertEqual(moved(OFFICES, ["ny", "+", "ny", "+", "ny"], 4), 8)

    def test_empty_rule(self):
        for day in (-FAR, 5, FAR):
            self.assertEqual(moved(OFFICES, [], day), day)
            self.assertEqual(moved({}, [], day), day)

    def test_rules_without_an_office(self):
        self.assertEqual(moved({}, ["+"] * 200, -100), 100)

    def test_a_second_office_moves_nothing(self):
        for day in range(-3, 12):
            self.assertEqual(moved(OFFICES, ["ldn", "ldn", "ldn"], day), moved(OFFICES, ["ldn"], day))

    def test_by_name(self):
        self.assertEqual(moved(day=4, rule=["+", "ny"], calendars=OFFICES), 7)

    def test_day_by_day(self):
        source = random.Random(51)
        for calendars, models in small_offices(52, 60):
            for _ in range(10):
                rule = some_rule(source, "abc+")
                day = source.randint(-40, 40)
                self.assertEqual(moved(calendars, rule, day), walked(models, rule, day))

    def test_far(self):
        source = random.Random(53)
        pairs = list(far_pairs(54, 12))
        for number in range(0, 12, 3):
            chosen = dict(zip("abc", pairs[number:number + 3]))
            calendars = {key: pair[0] for key, pair in chosen.items()}
            for day in days_about(source, pairs[number][1], 8):
                rule = some_rule(source, "abc+")
                expected = day
                for letter in rule:
                    expected = expected + 1 if letter == "+" else calendars[letter].next_open(expected)
                self.assertEqual(moved(calendars, rule, day), expected)

    def test_long_closed(self):
        calendars = {"a": Calendar("o-", closed=[(-FAR, FAR)]), "b": Calendar("-o")}
        self.assertEqual(moved(calendars, ["b", "a", "b"], -FAR), FAR + 3)
        self.assertEqual(moved(calendars, ["a", "b", "+"], -FAR - 1), FAR + 4)

    def test_longest_rules(self):
        calendars = {"a": Calendar("o-"), "b": Calendar("-o")}
        self.assertEqual(moved(calendars, ["b", "a"] * 100, 0), 200)
        self.assertEqual(moved(calendars, ["b", "+"] * 100, FAR), FAR + 200)

    def test_arguments_stay(self):
        calendars = dict(OFFICES)
        rule = ["ny", "ny", "+", "ldn"]
        for function in FUNCTIONS:
            function(calendars, rule, 4)
            self.assertEqual((list(calendars), rule), (["ny", "ldn"], ["ny", "ny", "+", "ldn"]))
            self.assertEqual(calendars, OFFICES)


class Stops(unittest.TestCase):
    def test_days(self):
        self.assertEqual(list(stops(OFFICES, ["ny", "+", "ny", "ldn"], 4)), [4, 4, 5, 7, 8])
        self.assertEqual(list(stops(OFFICES, ["ny", "ny", "+"], 5)), [5, 7, 7, 8])
        self.assertEqual(list(stops(calendars={}, rule=["+", "+"], day=-1)), [-1, 0, 1])

    def test_empty_rule(self):
        self.assertEqual(list(stops({}, [], 9)), [9])

    def test_is_a_generator(self):
        days = stops(OFFICES, ["+", "ny"], 4)
        self.assertTrue(inspect.isgenerator(days))
        self.assertEqual([next(days), next(days), next(days)], [4, 5, 7])
        self.assertRaises(StopIteration, next, days)

    def test_against_moved(self):
        source = random.Random(55)
        for calendars, _ in small_offices(56, 40):
            rule = some_rule(source, "abc+")
            day = source.randint(-30, 30)
            self.assertEqual(list(stops(calendars, rule, day)),
                             [moved(calendars, rule[:size], day) for size in range(len(rule) + 1)])

    def test_far(self):
        calendars = {"a": Calendar("o-", closed=[(-FAR, FAR)])}
        self.assertEqual(list(stops(calendars, ["+", "a", "+"], -FAR)), [-FAR, -FAR + 1, FAR + 2, FAR + 3])

    def test_arguments_that_change_later(self):
        calendars = dict(OFFICES)
        rule = ["ny", "+", "ny"]
        days = stops(calendars, rule, 4)
        found = [next(days), next(days)]
        calendars.clear()
        rule.clear()
        self.assertEqual(found + list(days), [4, 4, 5, 7])

    def test_errors_come_with_the_first_day(self):
        wrong = [
            (InvalidCalendars, (None, [], 0)), (InvalidRule, ({}, None, 0)), (UnknownOffice, ({}, ["+", "ny"], 0)),
            (InvalidDay, ({}, [], None)), (InvalidDay, (OFFICES, ["ny"], True)),
        ]
        for error, arguments in wrong:
            with self.assertRaises(error):
                next(stops(*arguments))


class Errors(unittest.TestCase):
    def test_calendars(self):
        for number, value in enumerate(NOT_CALENDARS):
            for place, function in enumerate(FUNCTIONS):
                with self.subTest(number=number, place=place):
                    self.assertRaises(InvalidCalendars, function, value, ["ny"], 4)
                    self.assertRaises(InvalidCalendars, function, value, [], 4)

    def test_rules(self):
        for number, value in enumerate(NOT_RULES):
            for place, function in enumerate(FUNCTIONS):
                with self.subTest(number=number, place=place):
                    self.assertRaises(InvalidRule, function, OFFICES, value, 4)

    def test_days(self):
        for number, value in enumerate(NO_INTEGERS):
            for place, function in enumerate(FUNCTIONS):
                with self.subTest(number=number, place=place):
                    self.assertRaises(InvalidDay, function, OFFICES, ["ny"], value)
                    self.assertRaises(InvalidDay, function, {}, [], value)

    def test_first_unknown_office(self):
        wrong = [
            (OFFICES, ["ny", "+", "c", "ldn", "b"], "c"), (OFFICES, ["b", "ny", "a"], "b"), (OFFICES, ["nyc"], "nyc"),
            ({}, ["+", "ny"], "ny"), ({"a": Calendar("o")}, ["a", "+", "aa", "a", "b"], "aa"),
        ]
        for calendars, rule, office in wrong:
            for place, function in enumerate(FUNCTIONS):
                with self.subTest(rule=rule, place=place):
                    with self.assertRaises(UnknownOffice) as caught:
                        function(calendars, rule, 4)
                    self.assertEqual(caught.exception.office, office)

    def test_more_offices_than_those_of_the_rule(self):
        more = {f"office{letter}": Calendar("o-", closed=[(0, FAR)]) for letter in "abcdefghijklmnopqrstuvwxyz"}
        for function in FUNCTIONS:
            self.assertEqual(function({**more, **OFFICES}, ["ny", "+", "ldn"], 4),
                             function(OFFICES, ["ny", "+", "ldn"], 4))

    def test_the_first_error_is_due(self):
        for function in FUNCTIONS:
            self.assertRaises(InvalidCalendars, function, {"ny": 1}, ["a", 1], None)
            self.assertRaises(InvalidCalendars, function, None, ["a"], None)
            self.assertRaises(InvalidRule, function, OFFICES, ["a", 1], None)
            self.assertRaises(UnknownOffice, function, OFFICES, ["ny", "a"], None)
            self.assertRaises(UnknownOffice, function, {}, ["ny"], True)
            self.assertRaises(InvalidDay, function, OFFICES, ["ny"], True)

    def test_times(self):
        for number, value in enumerate(NO_INTEGERS + [-1, -FAR, FAR + 1, 10 ** 31]):
            with self.subTest(number):
                self.assertRaises(InvalidNumber, repeated, OFFICES, ["ny"], 4, value)
                self.assertRaises(InvalidNumber, repeated, {}, [], 4, value)

    def test_goals(self):
        for number, value in enumerate(NO_INTEGERS):
            with self.subTest(number):
                self.assertRaises(InvalidDay, repeats_to, OFFICES, ["ny"], 4, value)
                self.assertRaises(InvalidDay, repeats_to, {}, [], 4, value)

    def test_further_errors_come_last(self):
        for function in (repeated, repeats_to):
            self.assertRaises(InvalidCalendars, function, [], None, None, None)
            self.assertRaises(InvalidRule, function, {}, None, None, None)
            self.assertRaises(UnknownOffice, function, {}, ["ny"], None, None)
            self.assertRaises(InvalidDay, function, {}, [], None, -1)
        self.assertRaises(InvalidDay, repeated, OFFICES, ["+"], False, True)
        self.assertRaises(InvalidNumber, repeated, OFFICES, ["+"], 0, True)

    def test_the_calendars_of_the_model(self):
        calendar, model = both("o--", [(0, 4)], [(1, 9)])
        self.assertEqual([moved({"a": calendar}, ["a"], day) for day in range(-4, 12)],
                         [walked({"a": model}, ["a"], day) for day in range(-4, 12)])


if __name__ == "__main__":
    unittest.main()
