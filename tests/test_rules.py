"""The module rules."""

import random
import unittest

from daychains.errors import InvalidNumber, InvalidOffice, InvalidRule
from daychains.rules import is_office, is_rule, joined, offices_in, reduced, working_days
from model import some_rule
from values import ANY_VALUES, NO_INTEGERS, NO_STRINGS, NOT_RULES

OFFICES = ["a", "z", "ny", "ldn", "abcdefgh", "zzzzzzzz", "open", "day"]
NO_OFFICES = ["", "+", "abcdefghi", "a" * 3000, "A", "Ny", "n y", " ny", "ny ", "ny\n", "\tny", "n1", "n-y", "n_y",
              "a+", ".", ";", "`", "{", "@", "\u00e9", "n\u00fd", "\u0430"]
RULES = [[], ["+"], ["ny"], ["ny", "+", "ny"], ["+"] * 200, ["a", "a"], ["abcdefgh"] * 250]


class Judges(unittest.TestCase):
    def test_offices(self):
        for value in OFFICES:
            self.assertIs(is_office(value), True)
        self.assertIs(is_office(value="ny"), True)

    def test_no_offices(self):
        for number, value in enumerate(NO_OFFICES):
            with self.subTest(number):
                self.assertIs(is_office(value), False)

    def test_any_value_as_office(self):
        for number, value in enumerate(NO_STRINGS):
            with self.subTest(number):
                self.assertIs(is_office(value), False)

    def test_rules(self):
        for value in RULES:
            self.assertIs(is_rule(value), True)
        self.assertIs(is_rule(value=["ny"]), True)

    def test_no_rules(self):
        for number, value in enumerate(NOT_RULES):
            with self.subTest(number):
                self.assertIs(is_rule(value), False)

    def test_any_value_as_rule(self):
        for number, value in enumerate(ANY_VALUES):
            with self.subTest(number):
                self.assertIs(is_rule(value), isinstance(value, list) and value in ([], ["ny", "+"], ["o"]))

    def test_a_list_that_contains_itself(self):
        value = ["ny"]
        value.append(value)
        self.assertIs(is_rule(value), False)


class Reduced(unittest.TestCase):
    def test_neighbours(self):
        self.assertEqual(reduced(["a", "a", "a"]), ["a"])
        self.assertEqual(reduced(["a", "b", "a", "a", "b", "b"]), ["a", "b", "a", "b"])
        self.assertEqual(reduced(["+", "+", "a", "+", "a", "a", "+", "+", "+"]),
                         ["+", "+", "a", "+", "a", "+", "+", "+"])
        self.assertEqual(reduced(rule=["a", "aa", "aa", "a"]), ["a", "aa", "a"])

    def test_empty(self):
        self.assertEqual(reduced([]), [])

    def test_against_the_definition(self):
        source = random.Random(41)
        for _ in range(300):
            rule = some_rule(source)
            expected = list(rule)
            pairs = [at for at in range(1, len(rule)) if rule[at] == rule[at - 1] != "+"]
            for at in reversed(pairs):
                del expected[at]
            self.assertEqual(reduced(rule), expected)
            self.assertEqual(reduced(expected), expected)

    def test_result_is_new(self):
        rule = ["a", "+", "b"]
        result = reduced(rule)
        result.append("c")
        self.assertEqual(rule, ["a", "+", "b"])
        self.assertEqual(reduced(rule), ["a", "+", "b"])
        doubled = ["a", "a"]
        reduced(doubled)
        self.assertEqual(doubled, ["a", "a"])

    def test_wrong_rules(self):
        for number, value in enumerate(NOT_RULES):
            with self.subTest(number), self.assertRaises(InvalidRule):
                reduced(value)


class OfficesIn(unittest.TestCase):
    def test_ascending_and_different(self):
        self.assertEqual(offices_in(["ny", "+", "ldn", "ny", "a", "+", "nyc"]), ["a", "ldn", "ny", "nyc"])
        self.assertEqual(offices_in(rule=["b", "a", "b"]), ["a", "b"])

    def test_none(self):
        self.assertEqual(offices_in([]), [])
        self.assertEqual(offices_in(["+", "+"]), [])

    def test_rule_stays(self):
        rule = ["b", "+", "a", "a"]
        offices_in(rule).append("c")
        self.assertEqual(rule, ["b", "+", "a", "a"])
        self.assertEqual(offices_in(rule), ["a", "b"])

    def test_wrong_rules(self):
        for number, value in enumerate(NOT_RULES):
            with self.subTest(number), self.assertRaises(InvalidRule):
                offices_in(value)


class Joined(unittest.TestCase):
    def test_one_after_the_other(self):
        self.assertEqual(joined(["b", "a"], ["+"], ["a", "b"]), ["b", "a", "+", "a", "b"])

    def test_reduced_over_the_seams(self):
        self.assertEqual(joined(["a", "b"], ["b"], [], ["b", "b", "+"], ["+", "b"]), ["a", "b", "+", "+", "b"])

    def test_few(self):
        self.assertEqual(joined(), [])
        self.assertEqual(joined([]), [])
        self.assertEqual(joined([], []), [])
        self.assertEqual(joined(["a", "a"]), ["a"])

    def test_results_are_new(self):
        joined().append("a")
        self.assertEqual(joined(), [])
        rule = ["a", "b"]
        joined(rule).append("c")
        joined(rule, ["b"], rule)
        self.assertEqual(rule, ["a", "b"])

    def test_against_the_definition(self):
        source = random.Random(42)
        for _ in range(100):
            rules = [some_rule(source, most=4) for _ in range(source.randint(0, 5))]
            self.assertEqual(joined(*rules), reduced([letter for rule in rules for letter in rule]))

    def test_wrong_rules(self):
        for number, value in enumerate(NOT_RULES):
            for rules in [(value,), (["a"], value), (value, ["a"]), ([], value, [])]:
                with self.subTest(number), self.assertRaises(InvalidRule):
                    joined(*rules)


class WorkingDays(unittest.TestCase):
    def test_counts(self):
        self.assertEqual(working_days("ny", 0), ["ny"])
        self.assertEqual(working_days("ny", 1), ["ny", "+", "ny"])
        self.assertEqual(working_days(count=3, office="abcdefgh"), ["abcdefgh"] + ["+", "abcdefgh"] * 3)
        self.assertEqual(working_days("a", 99), ["a"] + ["+", "a"] * 99)

    def test_results_are_new(self):
        working_days("ny", 1).append("x")
        self.assertEqual(working_days("ny", 1), ["ny", "+", "ny"])

    def test_wrong_offices(self):
        for number, value in enumerate(NO_OFFICES + NO_STRINGS):
            with self.subTest(number), self.assertRaises(InvalidOffice):
                working_days(value, 2)

    def test_wrong_counts(self):
        for number, value in enumerate(NO_INTEGERS + [-1, 100, 10 ** 30, -10 ** 30]):
            with self.subTest(number), self.assertRaises(InvalidNumber):
                working_days("ny", value)

    def test_the_office_is_judged_first(self):
        self.assertRaises(InvalidOffice, working_days, "+", -1)
        self.assertRaises(InvalidOffice, working_days, None, None)


if __name__ == "__main__":
    unittest.main()
