"""The module order: shows_later, for any value."""

import random
import unittest

from daychains.calendars import Calendar
from daychains.errors import InvalidRule
from daychains.order import counterexample, never_later, shows_later
from model import FAR, small_pairs, some_rule, walked
from values import ANY_VALUES, NO_INTEGERS, NOT_CALENDARS, NOT_RULES, EqualToAll

CALENDARS = {"a": Calendar("o-"), "b": Calendar("-o")}
MORE = {**CALENDARS, "c": Calendar("o"), "officex": Calendar("--o", closed=[(-FAR, FAR)])}


def shown(value):
    return shows_later(["a", "b"], ["b", "a"], value)


class Shown(unittest.TestCase):
    def test_days(self):
        self.assertEqual([shown((CALENDARS, day)) for day in (0, 1, 2, -FAR, FAR - 1)],
                         [False, True, False, False, True])
        self.assertIs(shown((CALENDARS, 1)), True)
        self.assertIs(shown((CALENDARS, 0)), False)
        self.assertIs(shows_later(value=(CALENDARS, 1), other=["b", "a"], rule=["a", "b"]), True)

    def test_equal_days_do_not_show_it(self):
        self.assertIs(shows_later(["a"], ["a"], (CALENDARS, 1)), False)
        self.assertIs(shows_later(["a"], ["b"], ({"a": Calendar("o-"), "b": Calendar("o-")}, 1)), False)
        self.assertIs(shows_later([], [], ({}, 1)), False)

    def test_more_offices(self):
        self.assertEqual([shown((MORE, day)) for day in (0, 1, 2)], [False, True, False])
        self.assertIs(shows_later(["+"], [], (MORE, 0)), True)

    def test_fewer_offices(self):
        for office in ("a", "b"):
            self.assertIs(shown(({office: CALENDARS[office]}, 1)), False)
        self.assertIs(shown(({}, 1)), False)
        self.assertIs(shown(({"c": Calendar("o"), "a": Calendar("o-")}, 1)), False)
        self.assertIs(shows_later(["+"], ["a"], ({}, 1)), False)
        self.assertIs(shows_later(["a"], [], ({"b": Calendar("o-")}, 1)), False)

    def test_without_offices(self):
        self.assertIs(shows_later(["+"], [], ({}, 5)), True)
        self.assertIs(shows_later([], ["+"], ({}, 5)), False)

    def test_never_for_what_is_never_later(self):
        source = random.Random(98)
        models = list(small_pairs(99, 30))
        for _ in range(800):
            rule, other = some_rule(source, most=6), some_rule(source, most=6)
            chosen = dict(zip("abc", source.sample(models, 3)))
            day = source.randint(-40, 40)
            value = ({key: pair[0] for key, pair in chosen.items()}, day)
            by_models = {key: pair[1] for key, pair in chosen.items()}
            expected = walked(by_models, rule, day) > walked(by_models, other, day)
            self.assertIs(shows_later(rule, other, value), expected)
            self.assertFalse(expected and never_later(rule, other))

    def test_value_stays(self):
        calendars = dict(MORE)
        value = (calendars, 1)
        self.assertIs(shown(value), True)
        self.assertEqual((calendars, value[1]), (MORE, 1))


class AnyValue(unittest.TestCase):
    def test_other_values(self):
        for number, value in enumerate(ANY_VALUES):
            with self.subTest(number):
                self.assertIs(shown(value), False)
                self.assertIs(shows_later(["+"], [], value), False)

    def test_other_days(self):
        for number, value in enumerate(NO_INTEGERS):
            with self.subTest(number):
                self.assertIs(shown((CALENDARS, value)), False)
                self.assertIs(shows_later(["+"], [], ({}, value)), False)
        # True is no day, although it equals 1, for which the calendars show it.
        self.assertIs(shown((CALENDARS, True)), False)

    def test_other_calendars(self):
        for number, value in enumerate(NOT_CALENDARS):
            with self.subTest(number):
                self.assertIs(shown((value, 1)), False)
                self.assertIs(shows_later(["+"], [], (value, 1)), False)
                if isinstance(value, dict):
                    self.assertIs(shown(({**value, **CALENDARS}, 1)), False)

    def test_other_shapes(self):
        good = counterexample(["a", "b"], ["b", "a"])
        calendars, day = good
        self.assertIs(shown(good), True)
        pairs = tuple(calendars.items())
        for number, value in enumerate([
                list(good), [good], (good,), (good, good), (day, calendars), (calendars, day, None), (calendars,),
                (calendars, day, day), (calendars, [day]), (calendars, (day,)), ((calendars,), day), ([calendars], day),
                (pairs, day), (list(pairs), day), {"calendars": calendars, "day": day}, calendars, day,
                (calendars, str(day)), (calendars, None), ((calendars, day), day), [calendars, day], iter(good),
                (dict, int),
                ({**calendars, 1: Calendar("o")}, day), ({**calendars, "C": Calendar("o")}, day),
                ({**calendars, "c": None}, day), ({**calendars, "a": "o"}, day),
                ({**calendars, "c": EqualToAll()}, day), (EqualToAll(), EqualToAll()), (EqualToAll(), day),
                (calendars, EqualToAll())]):
            with self.subTest(number):
                self.assertIs(shown(value), False)

    def test_nested_values(self):
        value = counterexample(["a", "b"], ["b", "a"])
        for _ in range(37):
            value = (value, 1)
            self.assertIs(shown(value), False)


class Errors(unittest.TestCase):
    def test_wrong_rules(self):
        for number, value in enumerate(NOT_RULES):
            for shows in [(CALENDARS, 1), None, 7]:
                with self.subTest(number):
                    self.assertRaises(InvalidRule, shows_later, value, ["a"], shows)
                    self.assertRaises(InvalidRule, shows_later, ["a"], value, shows)


if __name__ == "__main__":
    unittest.main()
