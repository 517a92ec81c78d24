"""The module bounds: count_below, nth_below and index_below."""

import itertools
import random
import unittest

from daychains.bounds import count_below, index_below, nth_below
from daychains.order import never_later
from daychains.rules import is_rule, reduced
from model import FAR, all_rules, some_rule


def all_below(rule, size):
    """Return, ascending, all reduced rules with so many letters that the rule spells."""
    letters = reduced(rule)
    spelled = {tuple(letters[at] for at in chosen) for chosen in itertools.combinations(range(len(letters)), size)}
    return sorted(list(entry) for entry in spelled if reduced(list(entry)) == list(entry))


class CountBelow(unittest.TestCase):
    def test_answers(self):
        for rule, size, expected in [
                (["a", "b", "a"], 0, 1), (["a", "b", "a"], 1, 2), (["a", "b", "a"], 2, 2), (["a", "b", "a"], 3, 1),
                (["a", "b", "a"], 4, 0), ([], 0, 1), ([], 1, 0), (["a"], 5, 0), (["a", "a"], 1, 1), (["a", "a"], 2, 0),
                (["+", "+"], 1, 1), (["+", "+"], 2, 1), (["+", "a", "+"], 2, 3), (["a", "b", "c"], 2, 3),
                (["a"], FAR, 0), ([], 10 ** 31 - 1, 0), (["+"] * 200, 100, 1), (["a"] * 200, 1, 1)]:
            with self.subTest(rule=rule, size=size):
                self.assertEqual(count_below(rule, size), expected)
        self.assertEqual(count_below(size=2, rule=["a", "b", "a"]), 2)

    def test_all_small_rules(self):
        for rule in all_rules("ab+", 5):
            for size in range(len(rule) + 2):
                self.assertEqual(count_below(rule, size), len(all_below(rule, size)))

    def test_by_never_later(self):
        rules = [entry for entry in all_rules("ab+", 4) if reduced(entry) == entry]
        source = random.Random(221)
        for _ in range(40):
            rule = some_rule(source, "ab+", 9)
            for size in range(5):
                below = [entry for entry in rules if len(entry) == size and never_later(entry, rule)]
                self.assertEqual(count_below(rule, size), len(below))

    def test_very_large_counts(self):
        # All letters are different here: each choice of indices spells a rule of its own.
        names = [first + second for first in "abcdefghijklmnopqrst" for second in "abcdefghij"]
        self.assertEqual(count_below(names, 100), 90548514656103281165404177077484163874504589675413336841320)
        self.assertEqual(count_below(names, 200), 1)

    def test_long_rules_of_few_letters(self):
        rule = ["a", "b"] * 100
        self.assertEqual([count_below(rule, size) for size in (1, 2, 3, 198, 199, 200, 201)], [2, 2, 2, 2, 2, 1, 0])


class NthBelow(unittest.TestCase):
    def test_answers(self):
        self.assertEqual([nth_below(["a", "b", "a"], 2, number) for number in (0, 1)], [["a", "b"], ["b", "a"]])
        self.assertEqual([nth_below(["b", "+", "a"], 1, number) for number in (0, 1, 2)], [["+"], ["a"], ["b"]])
        self.assertEqual([nth_below(["b", "ab", "a"], 1, number) for number in (0, 1, 2)], [["a"], ["ab"], ["b"]])
        self.assertEqual(nth_below([], 0, 0), [])
        self.assertEqual(nth_below(["a", "a"], 0, 0), [])
        self.assertEqual(nth_below(["a", "a", "+", "+"], 3, 0), ["a", "+", "+"])
        self.assertEqual(nth_below(number=1, size=2, rule=["a", "b", "a"]), ["b", "a"])

    def test_ascending_order(self):
        longer = [["b", "a", "c", "+", "b", "a", "+", "c"], ["ba", "b", "+", "bab", "ba", "b"]]
        for rule in all_rules("ab+", 5) + longer:
            for size in range(len(rule) + 1):
                below = all_below(rule, size)
                self.assertEqual([nth_below(rule, size, number) for number in range(len(below))], below)

    def test_results_are_new(self):
        for rule in ([], ["a"], ["a", "b"]):
            nth_below(rule, len(rule), 0).append("x")
            self.assertEqual(nth_below(rule, len(rule), 0), rule)
        rule = ["a", "a", "+"]
        nth_below(rule, 2, 0).append("x")
        self.assertEqual(rule, ["a", "a", "+"])


class IndexBelow(unittest.TestCase):
    def test_answers(self):
        for rule, below, expected in [
                (["a", "b", "a"], ["b", "a"], 1), (["a", "b", "a"], ["a", "b"], 0), (["a", "b", "a"], [], 0),
                ([], [], 0), (["a", "a"], ["a"], 0), (["b", "+", "a"], ["b"], 2), (["+", "+", "a"], ["+", "a"], 1)]:
            with self.subTest(rule=rule, below=below):
                self.assertEqual(index_below(rule, below), expected)
        self.assertEqual(index_below(below=["b", "a"], rule=["a", "b", "a"]), 1)

    def test_the_contrary_of_nth_below(self):
        source = random.Random(222)
        for _ in range(60):
            rule = some_rule(source, "abc+", 10)
            for size in range(len(rule) + 1):
                for number, below in enumerate(all_below(rule, size)):
                    self.assertEqual(index_below(rule, below), number)

    def test_long_rules(self):
        source = random.Random(223)
        for letters in ("ab+", "abcdefgh", "a+", "abcdefghijklmnopqrstuvwxyz+"):
            rule = [source.choice(letters) for _ in range(200)]
            for size in (1, 30, len(reduced(rule)) - 3):
                many = count_below(rule, size)
                for number in (0, many - 1, source.randrange(many), source.randrange(many)):
                    below = nth_below(rule, size, number)
                    self.assertTrue(is_rule(below) and reduced(below) == below and never_later(below, rule))
                    self.assertEqual((len(below), index_below(rule, below)), (size, number))
                pairs = [source.randrange(many) for _ in range(2)]
                first, second = [nth_below(rule, size, number) for number in pairs]
                self.assertEqual(first < second, pairs[0] < pairs[1])

    def test_arguments_stay(self):
        rule, below = ["a", "a", "+", "b"], ["a", "+"]
        count_below(rule, 2)
        nth_below(rule, 2, 1)
        index_below(rule, below)
        self.assertEqual((rule, below), (["a", "a", "+", "b"], ["a", "+"]))


if __name__ == "__main__":
    unittest.main()
