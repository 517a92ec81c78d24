"""The module order: never_later, same_days, indices_in and counterexample."""

import random
import unittest

from daychains.calendars import Calendar
from daychains.errors import InvalidRule
from daychains.moves import moved
from daychains.order import counterexample, indices_in, never_later, same_days, shows_later
from daychains.rules import is_office, offices_in, reduced
from model import all_rules, small_pairs, some_rule, spellings, spells, walked
from values import NOT_RULES

FUNCTIONS = [never_later, same_days, indices_in, counterexample]
NEVER_LATER = [
    ([], []), ([], ["a"]), ([], ["+"]), (["a"], ["a"]), (["a", "a"], ["a"]), (["a"], ["a", "a"]), (["+"], ["+", "+"]),
    (["a"], ["b", "a"]), (["a"], ["a", "b"]), (["a", "+"], ["+", "a", "+"]),
    (["ny", "+", "ny"], ["ny", "ldn", "+", "ldn", "ny"]), (["a", "a", "b", "b", "b"], ["c", "a", "c", "b"]),
    (["a", "+", "+", "b"], ["a", "+", "b", "+", "b"]),
]
LATER = [
    (["a"], []), (["+"], []), (["+"], ["a"]), (["a"], ["+"]), (["+", "+"], ["+"]), (["a", "b"], ["b", "a"]),
    (["a"], ["aa"]), (["a", "b", "a"], ["a", "b"]), (["a", "b", "a"], ["a", "a", "b", "b"]), (["a", "+"], ["+", "a"]),
    (["+", "a"], ["a", "+"]), (["a", "+", "a"], ["a", "+", "+"]), (["a", "+", "a"], ["+", "a", "+", "b"]),
    (["b", "a"], ["a"] * 200), (["a"] + ["+"] * 199, ["+"] * 199 + ["a"]), (["+"] * 200, ["a", "+"] * 100),
    (["a", "b"] * 100, ["b", "a"] * 100), (["a", "+", "+", "b"], ["a", "+", "b", "+"]),
]


class NeverLater(unittest.TestCase):
    def test_answers(self):
        for rule, other in NEVER_LATER:
            self.assertIs(never_later(rule, other), True)
        for rule, other in LATER:
            self.assertIs(never_later(rule, other), False)
        self.assertIs(never_later(other=["a", "b"], rule=["b"]), True)

    def test_spelled_by_some_indices(self):
        rules = all_rules("ab+", 4)
        source = random.Random(91)
        for rule in all_rules("ab+", 3):
            for other in source.sample(rules, 40):
                self.assertIs(never_later(rule, other), spellings(reduced(rule), other) != [])

    def test_by_calendars(self):
        # Guarantee (a): where a rule is never later, no calendars show it later.
        source = random.Random(92)
        models = [pair[1] for pair in small_pairs(93, 40)]
        for _ in range(1500):
            rule, other = some_rule(source, most=5), some_rule(source, most=8)
            if never_later(rule, other):
                calendars = dict(zip("ab", source.sample(models, 2)))
                day = source.randint(-40, 40)
                self.assertLessEqual(walked(calendars, rule, day), walked(calendars, other, day))


class SameDays(unittest.TestCase):
    def test_answers(self):
        for rule, other in [([], []), (["a", "a"], ["a"]), (["a", "+", "b", "b"], ["a", "a", "+", "b"]),
                            (["+", "+"], ["+", "+"]), (["a", "b", "a"], ["a", "b", "a"])]:
            self.assertIs(same_days(rule, other), True)
            self.assertIs(same_days(other=rule, rule=other), True)
        for rule, other in LATER + [(["a"], ["a", "b"]), (["+"], ["+", "+"]), ([], ["a"]), (["a", "b"], ["b", "a"])]:
            self.assertIs(same_days(rule, other), False)
            self.assertIs(same_days(other, rule), False)

    def test_never_later_both_ways(self):
        rules = all_rules("ab+", 3)
        for rule in rules:
            for other in rules:
                both = never_later(rule, other) and never_later(other, rule)
                self.assertIs(same_days(rule, other), both)


class IndicesIn(unittest.TestCase):
    def test_least_lists(self):
        for rule, other, expected in [
                ([], [], []), ([], ["a", "b"], []), (["a"], ["a", "a"], [0]), (["a", "a"], ["b", "a", "a"], [1]),
                (["ny", "+", "ny"], ["ny", "ldn", "+", "ldn", "ny"], [0, 2, 4]),
                (["+", "+"], ["+", "a", "+", "+"], [0, 2]),
                (["a", "b"], ["a", "a", "b", "a", "b"], [0, 2]), (["a", "a", "b"], ["b", "a", "a", "b"], [1, 3]),
                (["a"], [], None), (["a", "b"], ["b", "a"], None), (["+"], ["a"], None)]:
            with self.subTest(rule=rule, other=other):
                self.assertEqual(indices_in(rule, other), expected)
                self.assertEqual(indices_in(other=other, rule=rule), expected)

    def test_against_the_definition(self):
        source = random.Random(94)
        for _ in range(1500):
            rule, other = some_rule(source, most=5), some_rule(source, most=9)
            found = spellings(reduced(rule), other)
            self.assertEqual(indices_in(rule, other), min(found) if found else None)

    def test_long_rules(self):
        source = random.Random(95)
        for _ in range(50):
            other = [source.choice("abcd+") for _ in range(200)]
            rule = [other[at] for at in sorted(source.sample(range(200), 60))]
            self.assertTrue(spells(indices_in(rule, other), reduced(rule), other))

    def test_results_are_new(self):
        indices_in([], []).append(7)
        self.assertEqual(indices_in([], []), [])
        indices_in(["a"], ["a"]).append(7)
        self.assertEqual(indices_in(["a"], ["a"]), [0])


class Counterexample(unittest.TestCase):
    def check(self, rule, other):
        """Check a counterexample with what the rules alone and the calendars tell of it."""
        found = counterexample(rule, other)
        self.assertIs(type(found), tuple)
        calendars, day = found
        self.assertIs(type(calendars), dict)
        self.assertEqual(sorted(calendars), offices_in(rule + other))
        self.assertTrue(all(is_office(key) and isinstance(calendars[key], Calendar) for key in calendars))
        self.assertIs(type(day), int)
        self.assertGreater(moved(calendars, rule, day), moved(calendars, other, day))
        self.assertIs(shows_later(rule, other, found), True)
        return calendars, day

    def test_none(self):
        for rule, other in NEVER_LATER:
            self.assertIsNone(counterexample(rule, other))

    def test_pairs(self):
        for rule, other in LATER:
            with self.subTest(rule=rule, other=other):
                self.check(rule, other)
        self.assertEqual(counterexample(other=["b", "a"], rule=["a", "b"]), counterexample(["a", "b"], ["b", "a"]))

    def test_without_offices(self):
        calendars, _ = self.check(["+", "+"], ["+"])
        self.assertEqual(calendars, {})

    def test_all_small_rules(self):
        # Guarantee (a): where a rule is not spelled, some calendars show it later.
        rules = all_rules("ab+", 3)
        for rule in rules:
            for other in rules:
                if never_later(rule, other):
                    self.assertIsNone(counterexample(rule, other))
                else:
                    calendars, day = self.check(rule, other)
                    self.assertGreater(walked(calendars, rule, day), walked(calendars, other, day))

    def test_longer_rules(self):
        source = random.Random(96)
        for _ in range(400):
            rule, other = some_rule(source, "abc+", 9), some_rule(source, "abc++", 30)
            if not never_later(rule, other):
                self.check(rule, other)

    def test_longest_rules(self):
        source = random.Random(97)
        for letters in ("ab+", "a+", "abcdefgh", "a" + "+" * 20):
            rule = [source.choice(letters) for _ in range(200)]
            for other in (rule[1:], rule[:-1], rule[:100] + rule[101:], rule[::-1], ["+"] * 200):
                if not never_later(rule, other):
                    self.check(rule, other)

    def test_as_many_offices_as_letters(self):
        names = [first + second for first in "abcdefghijklmnopqrst" for second in "abcdefghij"]
        self.check(names, names[::-1])
        self.check(names, [name + "x" for name in names])
        self.check(["+"], names)

    def test_results_are_equal_and_new(self):
        calendars, _ = counterexample(["a", "b"], ["b", "a", "+"])
        again = counterexample(["a", "b"], ["b", "a", "+"])
        self.assertEqual(again[0], calendars)
        calendars.clear()
        self.assertEqual(counterexample(["a", "b"], ["b", "a", "+"]), again)


class Errors(unittest.TestCase):
    def test_wrong_rules(self):
        for number, value in enumerate(NOT_RULES):
            for function in FUNCTIONS:
                with self.subTest(number):
                    self.assertRaises(InvalidRule, function, value, ["a"])
                    self.assertRaises(InvalidRule, function, ["a"], value)
                    self.assertRaises(InvalidRule, function, [], value)
                    self.assertRaises(InvalidRule, function, value, value)

    def test_arguments_stay(self):
        rule, other = ["a", "a", "+", "b"], ["b", "a", "a", "+", "+"]
        for function in FUNCTIONS:
            function(rule, other)
            function(other, rule)
            self.assertEqual((rule, other), (["a", "a", "+", "b"], ["b", "a", "a", "+", "+"]))


if __name__ == "__main__":
    unittest.main()
