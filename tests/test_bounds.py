"""The module bounds: longest_below and shortest_above, and the errors of the whole module."""

import random
import unittest

from daychains.bounds import count_below, index_below, longest_below, nth_below, shortest_above
from daychains.errors import InvalidNumber, InvalidRule, NotBelow
from daychains.order import never_later
from daychains.rules import is_rule, reduced
from model import FAR, all_rules, some_rule, spellings
from values import ANY_VALUES, NO_INTEGERS, NO_LISTS, NOT_RULES

TWO_RULES = [longest_below, shortest_above]


def longest_reduced(rule, other):
    """Return the most letters of a rule that is never later than both, over all rules that the one spells."""
    kept = [[rule[at] for at in range(len(rule)) if mask >> at & 1] for mask in range(2 ** len(rule))]
    return max(len(reduced(entry)) for entry in kept if spellings(reduced(entry), other))


class LongestBelow(unittest.TestCase):
    def check(self, rule, other):
        """Check what any bound fulfils, and return it."""
        found = longest_below(rule, other)
        self.assertTrue(is_rule(found))
        self.assertEqual(reduced(found), found)
        self.assertTrue(never_later(found, rule) and never_later(found, other))
        return found

    def test_answers(self):
        for rule, other, expected in [
                (["a", "b", "c"], ["b", "c", "a"], ["b", "c"]), (["a", "b", "a"], ["a", "c", "a"], ["a"]),
                (["+", "b", "+"], ["+", "c", "+"], ["+", "+"]), (["+", "+"], ["a", "+", "+", "+"], ["+", "+"]),
                (["a", "a", "b"], ["a", "b", "b"], ["a", "b"]), (["a"], ["a", "a"], ["a"]), (["a", "b"], ["c"], []),
                ([], ["a"], []), (["a"], [], []), ([], [], []), (["aa"], ["a", "aa"], ["aa"]), (["+"], ["a"], []),
                (["a", "+", "a"], ["a", "b", "a", "+", "b", "a"], ["a", "+", "a"])]:
            with self.subTest(rule=rule, other=other):
                self.assertEqual(self.check(rule, other), expected)
                self.assertEqual(self.check(other, rule), expected)

    def test_shared_letters_that_would_stand_side_by_side(self):
        # The longest shared letters are four times `a` in the first pair, but they are one in a reduced rule.
        for rule, other, most in [
                (["a", "b", "a", "b", "a", "b", "a"], ["a", "c", "a", "c", "a", "c", "a"], 1),
                (["a", "b", "a", "b", "a", "x", "y"], ["x", "y", "a", "c", "a", "c", "a"], 2),
                (["a", "b", "a", "+"], ["a", "c", "a", "+"], 2),
                (["a", "b", "a", "+", "a", "b"], ["a", "c", "a", "+", "a", "c", "b"], 4),
                (["a", "b", "a", "c", "a"], ["a", "a", "d", "a", "c"], 2)]:
            with self.subTest(rule=rule, other=other):
                self.assertEqual(len(self.check(rule, other)), most)
                self.assertEqual(len(self.check(other, rule)), most)

    def test_all_small_rules(self):
        rules = all_rules("ab+", 4)
        source = random.Random(201)
        for rule in rules:
            for other in source.sample(rules, 12):
                self.assertEqual(len(self.check(rule, other)), longest_reduced(rule, other))

    def test_against_the_definition(self):
        source = random.Random(202)
        for letters in ("ab", "abc", "abc+", "abcde"):
            for _ in range(60):
                rule, other = some_rule(source, letters, 8), some_rule(source, letters, 10)
                self.assertEqual(len(self.check(rule, other)), longest_reduced(rule, other))

    def test_a_rule_below_the_other_one(self):
        source = random.Random(203)
        for _ in range(100):
            other = some_rule(source, "abc+", 60)
            rule = [letter for letter in other if source.random() < 0.5]
            self.assertEqual(self.check(rule, other), reduced(rule))
            self.assertEqual(self.check(other, rule), reduced(rule))

    def test_longest_rules(self):
        source = random.Random(204)
        for letters in ("ab+", "a+", "abcdefgh", "ab"):
            rule, other = [[source.choice(letters) for _ in range(200)] for _ in range(2)]
            self.check(rule, other)
            self.assertEqual(self.check(rule, rule), reduced(rule))
        self.assertEqual(self.check(["a", "b"] * 100, ["a", "c"] * 100), ["a"])
        self.assertEqual(self.check(["+", "b"] * 100, ["+", "c"] * 100), ["+"] * 100)
        self.assertEqual(len(self.check(["a", "b", "c", "b"] * 50, ["a", "c"] * 100)), 100)


class ShortestAbove(unittest.TestCase):
    def check(self, rule, other):
        """Check what any bound fulfils, and return it."""
        found = shortest_above(rule, other)
        self.assertTrue(is_rule(found))
        self.assertTrue(never_later(rule, found) and never_later(other, found))
        return found

    def test_one_above_the_other(self):
        for rule, other, expected in [
                ([], [], []), (["a"], [], ["a"]), (["a", "b"], ["a", "b"], ["a", "b"]), (["a", "a"], ["a"], ["a"]),
                (["a", "a", "+", "+", "b", "b"], [], ["a", "+", "+", "b"]), (["a", "a"], ["a", "a"], ["a"]),
                (["b"], ["a", "b", "b", "c"], ["a", "b", "c"]), (["+"], ["+", "+"], ["+", "+"])]:
            with self.subTest(rule=rule, other=other):
                self.assertEqual(self.check(rule, other), expected)
                self.assertEqual(self.check(other, rule), expected)

    def test_sizes(self):
        for rule, other, size in [
                (["a", "b"], ["b", "a"], 3), (["a"], ["b"], 2), (["a", "b", "c"], ["b", "c", "a"], 4),
                (["a", "b", "a"], ["a", "c", "a"], 4), (["a", "a", "b"], ["a", "c", "c", "b"], 3),
                (["a", "a", "a", "b"], ["b", "a", "a"], 3), (["+"], ["a"], 2), (["+", "a"], ["a", "+"], 3)]:
            with self.subTest(rule=rule, other=other):
                self.assertEqual(len(self.check(rule, other)), size)
                self.assertEqual(len(self.check(other, rule)), size)

    def test_all_small_rules(self):
        rules = all_rules("ab+", 3)
        above = all_rules("ab+", 6)
        source = random.Random(211)
        for rule in rules:
            for other in source.sample(rules, 6):
                size = len(self.check(rule, other))
                shorter = [entry for entry in above if len(entry) < size]
                self.assertFalse(any(never_later(rule, entry) and never_later(other, entry) for entry in shorter))

    def test_against_sizes_below(self):
        # Of two reduced rules, a shortest rule above both leaves out as many letters as both share in order.
        source = random.Random(212)
        for _ in range(150):
            rule, other = reduced(some_rule(source, "abc+", 8)), reduced(some_rule(source, "abc+", 10))
            kept = [[rule[at] for at in range(len(rule)) if mask >> at & 1] for mask in range(2 ** len(rule))]
            most = max(len(entry) for entry in kept if spellings(entry, other))
            self.assertEqual(len(self.check(rule, other)), len(rule) + len(other) - most)

    def test_longest_rules(self):
        source = random.Random(213)
        for letters in ("ab+", "a+", "abcdefgh", "ab"):
            rule, other = [[source.choice(letters) for _ in range(200)] for _ in range(2)]
            self.check(rule, other)
            self.assertEqual(self.check(rule, rule), reduced(rule))
        self.assertEqual(len(self.check(["a", "b"] * 100, ["b", "a"] * 100)), 201)
        self.assertEqual(len(self.check(["a"] * 200, ["b"] * 200)), 2)
        self.assertEqual(len(self.check(["+"] * 200, ["a", "b"] * 100)), 400)


class Both(unittest.TestCase):
    def test_by_name_and_again(self):
        for function in TWO_RULES:
            found = function(other=["b", "+", "c", "a"], rule=["a", "b", "c"])
            self.assertEqual(found, function(["a", "b", "c"], ["b", "+", "c", "a"]))
            found.append("x")
            self.assertEqual(found[:-1], function(["a", "b", "c"], ["b", "+", "c", "a"]))

    def test_results_are_new(self):
        for function in TWO_RULES:
            for rule in ([], ["a"], ["a", "+", "b"]):
                other = list(rule)
                function(rule, other).append("x")
                self.assertEqual(rule, other)
                self.assertEqual(function(rule, rule), rule)

    def test_arguments_stay(self):
        rule, other = ["a", "a", "+", "b"], ["b", "b", "a", "+"]
        for function in TWO_RULES:
            function(rule, other)
            function(rule, rule)
            self.assertEqual((rule, other), (["a", "a", "+", "b"], ["b", "b", "a", "+"]))


class Errors(unittest.TestCase):
    def test_wrong_rules(self):
        for number, value in enumerate(NOT_RULES):
            for function in TWO_RULES:
                with self.subTest(number):
                    self.assertRaises(InvalidRule, function, value, ["a"])
                    self.assertRaises(InvalidRule, function, ["a"], value)
                    self.assertRaises(InvalidRule, function, [], value)
                    self.assertRaises(InvalidRule, function, value, value)
            with self.subTest(number):
                self.assertRaises(InvalidRule, count_below, value, 1)
                self.assertRaises(InvalidRule, count_below, value, None)
                self.assertRaises(InvalidRule, nth_below, value, 1, 0)
                self.assertRaises(InvalidRule, nth_below, value, -1, None)
                self.assertRaises(InvalidRule, index_below, value, [])
                self.assertRaises(InvalidRule, index_below, value, value)

    def test_wrong_sizes(self):
        for number, value in enumerate(NO_INTEGERS + [-1, -FAR]):
            with self.subTest(number):
                for rule in ([], ["a", "b"]):
                    self.assertRaises(InvalidNumber, count_below, rule, value)
                    self.assertRaises(InvalidNumber, nth_below, rule, value, 0)
                    self.assertRaises(InvalidNumber, nth_below, rule, value, None)

    def test_wrong_numbers(self):
        for number, value in enumerate(NO_INTEGERS + [-1, -FAR]):
            with self.subTest(number):
                self.assertRaises(InvalidNumber, nth_below, ["a", "b", "a"], 2, value)
                self.assertRaises(InvalidNumber, nth_below, [], 0, value)
                self.assertRaises(InvalidNumber, nth_below, ["a"], 5, value)
        for rule, size, number in [(["a", "b", "a"], 2, 2), (["a", "b", "a"], 2, FAR), ([], 0, 1), (["a"], 1, 1),
                                   (["a"], 2, 0), ([], 1, 0), (["a", "a"], 2, 0), (["a"], FAR, 0), (["+"] * 9, 4, 1)]:
            with self.subTest(rule=rule, size=size, number=number):
                self.assertRaises(InvalidNumber, nth_below, rule, size, number)

    def test_not_below(self):
        for number, value in enumerate(NOT_RULES):
            with self.subTest(number):
                self.assertRaises(NotBelow, index_below, ["ny", "+", "ny"], value)
        for number, value in enumerate(ANY_VALUES):
            with self.subTest(number):
                if value == [] and isinstance(value, list):
                    self.assertEqual(index_below([], value), 0)
                else:
                    self.assertRaises(NotBelow, index_below, [], value)
        for rule, below in [(["a", "b"], ["b", "a"]), (["a", "b"], ["c"]), (["a"], ["+"]), ([], ["a"]),
                            (["a", "a"], ["a", "a"]), (["a", "b", "a"], ["a", "a"]), (["a", "b"], ["a", "b", "b"]),
                            (["a", "b", "a"], ["a", "b", "a", "b"]), (["+"], ["+", "+"]), (["a", "b"], ("a", "b"))]:
            with self.subTest(rule=rule, below=below):
                self.assertRaises(NotBelow, index_below, rule, below)

    def test_not_below_is_due_last(self):
        for value in NO_LISTS:
            self.assertRaises(InvalidRule, index_below, value, None)


if __name__ == "__main__":
    unittest.main()
