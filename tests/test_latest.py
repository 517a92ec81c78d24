"""The module latest."""

import random
import unittest

from daychains.calendars import Calendar
from daychains.errors import InvalidCalendars, InvalidDay, InvalidRules, UnknownOffice
from daychains.latest import latest_counterexample, latest_day, latest_never_later, latest_same, normal_rules
from daychains.moves import moved
from daychains.order import never_later
from daychains.rules import offices_in, reduced
from model import FAR, small_pairs, some_rule, walked
from values import NO_INTEGERS, NOT_CALENDARS, NOT_LISTS_OF_RULES

OFFICES = {"ny": Calendar("ooooo--"), "ldn": Calendar("ooooo--", closed=[(7, 7)])}
PAIRS = [latest_never_later, latest_same, latest_counterexample]


def some_rules(source, most=4, letters="ab+", longest=4):
    return [some_rule(source, letters, longest) for _ in range(source.randint(1, most))]


def all_letters(rules):
    return [letter for rule in rules for letter in rule]


def walked_latest(calendars, rules, day):
    return max(walked(calendars, rule, day) for rule in rules)


def normal_by_definition(rules):
    """Return the normal rules, from the definition: each is needed, and together they are the latest ones."""
    forms = [reduced(rule) for rule in rules]
    different = sorted([rule for at, rule in enumerate(forms) if rule not in forms[:at]])
    return [rule for rule in different
            if all(other == rule or not never_later(rule, other) for other in different)]


class NormalRules(unittest.TestCase):
    def test_forms(self):
        for rules, expected in [
                ([["a"], ["a", "b"], ["b", "a"], ["b"]], [["a", "b"], ["b", "a"]]), ([[]], [[]]), ([[], []], [[]]),
                ([["a"], []], [["a"]]), ([["b"], ["a"]], [["a"], ["b"]]), ([["a", "a"], ["a"]], [["a"]]),
                ([["a", "a"], ["a"], ["a", "a", "a"]], [["a"]]), ([["+"], ["+", "+"]], [["+", "+"]]),
                ([["b", "b", "a"], ["a", "b", "b"]], [["a", "b"], ["b", "a"]]),
                ([["a"], ["+"], ["aa"]], [["+"], ["a"], ["aa"]]),
                ([["b", "a"], ["b"], ["a", "+"]], [["a", "+"], ["b", "a"]])]:
            with self.subTest(rules):
                self.assertEqual(normal_rules(rules), expected)
                self.assertEqual(normal_rules(rules=rules[::-1]), expected)

    def test_against_the_definition(self):
        source = random.Random(101)
        for _ in range(400):
            rules = some_rules(source, 7)
            found = normal_rules(rules)
            self.assertEqual(found, normal_by_definition(rules))
            self.assertEqual(normal_rules(found), found)
            self.assertTrue(latest_same(found, rules))

    def test_the_days_are_the_same(self):
        source = random.Random(102)
        models = [pair[1] for pair in small_pairs(103, 30)]
        for _ in range(200):
            rules = some_rules(source, 7)
            found = normal_rules(rules)
            calendars = dict(zip("ab", source.sample(models, 2)))
            for day in range(-40, 40, 7):
                self.assertEqual(walked_latest(calendars, rules, day), walked_latest(calendars, found, day))

    def test_one_list_for_all_with_the_same_days(self):
        source = random.Random(104)
        for _ in range(600):
            rules, others = some_rules(source, 3, longest=3), some_rules(source, 3, longest=3)
            self.assertIs(latest_same(rules, others), normal_rules(rules) == normal_rules(others))

    def test_results_are_new(self):
        rules = [["a"], ["b", "b"]]
        for _ in range(2):
            found = normal_rules(rules)
            self.assertEqual((found, rules), ([["a"], ["b"]], [["a"], ["b", "b"]]))
            found[0].append("c")
            found[1].clear()
            found.append([])
        single = ["a"]
        found = normal_rules([single, single])
        found[0].append("b")
        self.assertEqual((found, single), ([["a", "b"]], ["a"]))

    def test_largest_arguments(self):
        source = random.Random(105)
        rules = [[source.choice("ab+") for _ in range(200)] for _ in range(10)]
        parts = [[letter for letter in rule if source.random() < 0.9] for rule in rules]
        self.assertEqual(normal_rules(rules + parts), sorted(reduced(rule) for rule in rules))


class LatestNeverLater(unittest.TestCase):
    def test_answers(self):
        for rules, others, expected in [
                ([["a"], ["b"]], [["a", "b"]], True), ([["a", "b"]], [["a"], ["b"]], False), ([[]], [[]], True),
                ([["a"]], [["b"], ["+"], ["a", "+"]], True), ([["a"], ["b"]], [["a"]], False), ([["+"]], [[]], False),
                ([["a"], ["b"]], [["b"], ["a"]], True), ([["a", "b"], ["b", "a"]], [["a", "b", "a"]], True),
                ([["a", "b", "a"]], [["a", "b"], ["b", "a"]], False), ([[], ["a", "a"]], [["a"]], True)]:
            with self.subTest(rules=rules, others=others):
                self.assertIs(latest_never_later(rules, others), expected)
                self.assertIs(latest_never_later(others=others, rules=rules), expected)
                self.assertEqual(latest_counterexample(rules, others) is None, expected)

    def test_each_below_some_one(self):
        # Guarantee (b), by the order of single rules and by calendars.
        source = random.Random(106)
        models = [pair[1] for pair in small_pairs(107, 30)]
        for _ in range(800):
            rules, others = some_rules(source), some_rules(source)
            expected = all(any(never_later(rule, other) for other in others) for rule in rules)
            self.assertIs(latest_never_later(rules, others), expected)
            if expected:
                calendars = dict(zip("ab", source.sample(models, 2)))
                for day in range(-40, 40, 11):
                    self.assertLessEqual(walked_latest(calendars, rules, day), walked_latest(calendars, others, day))


class LatestSame(unittest.TestCase):
    def test_answers(self):
        for rules, others, expected in [
                ([["a", "b"], ["b"]], [["a", "b", "b"]], True), ([["a"], ["b"]], [["b"], ["a"], ["a"]], True),
                ([["a"]], [["a", "b"]], False), ([["a", "b"]], [["a"]], False), ([[], ["+"]], [["+"]], True),
                ([["a", "b"], ["b", "a"]], [["a", "b", "a"]], False)]:
            with self.subTest(rules=rules, others=others):
                self.assertIs(latest_same(rules, others), expected)
                self.assertIs(latest_same(others=rules, rules=others), expected)

    def test_never_later_both_ways(self):
        source = random.Random(108)
        for _ in range(600):
            rules, others = some_rules(source, 3, longest=3), some_rules(source, 3, longest=3)
            both = latest_never_later(rules, others) and latest_never_later(others, rules)
            self.assertIs(latest_same(rules, others), both)


class LatestDay(unittest.TestCase):
    def test_days(self):
        rules = [["ny"], ["ldn", "+"], ["ldn"]]
        self.assertEqual([latest_day(OFFICES, rules, day) for day in (3, 4, 5, 6, 7, 8)], [4, 5, 9, 9, 9, 9])
        self.assertEqual([latest_day(OFFICES, [["ny"], ["ldn"]], day) for day in (4, 5, 8)], [4, 8, 8])
        self.assertEqual(latest_day(day=5, rules=[["ny"], []], calendars=OFFICES), 7)
        self.assertEqual(latest_day({}, [[]], FAR), FAR)
        self.assertEqual(latest_day({}, [[], ["+"] * 200, ["+"]], -FAR), 200 - FAR)

    def test_far(self):
        calendars = {"a": Calendar("o-", closed=[(-FAR, FAR)]), "b": Calendar("-o")}
        self.assertEqual(latest_day(calendars, [["b", "+"], ["a"], ["b", "a"]], -FAR), FAR + 2)

    def test_against_single_rules(self):
        source = random.Random(109)
        pairs = list(small_pairs(110, 20))
        for _ in range(200):
            chosen = dict(zip("abc", source.sample(pairs, 3)))
            rules = some_rules(source, 20, "abc+", 8)
            day = source.randint(-40, 40)
            found = latest_day({key: pair[0] for key, pair in chosen.items()}, rules, day)
            self.assertEqual(found, walked_latest({key: pair[1] for key, pair in chosen.items()}, rules, day))

    def test_first_unknown_office(self):
        for rules, office in [([["ny", "c"], ["b"]], "c"), ([["ny"], [], ["+", "ldn", "b", "a"], ["c"]], "b"),
                              ([["z"], ["a"]], "z")]:
            with self.assertRaises(UnknownOffice) as caught:
                latest_day(OFFICES, rules, None)
            self.assertEqual(caught.exception.office, office)

    def test_the_first_error_is_due(self):
        for value in NOT_CALENDARS:
            self.assertRaises(InvalidCalendars, latest_day, value, [["ny"]], 4)
        self.assertRaises(InvalidCalendars, latest_day, None, [], None)
        for value in NOT_LISTS_OF_RULES:
            self.assertRaises(InvalidRules, latest_day, OFFICES, value, 4)
        self.assertRaises(InvalidRules, latest_day, OFFICES, [["a"], ["1"]], None)
        self.assertRaises(UnknownOffice, latest_day, {}, [["ny"]], True)
        for value in NO_INTEGERS:
            self.assertRaises(InvalidDay, latest_day, OFFICES, [["ny"], ["ldn"]], value)


class LatestCounterexample(unittest.TestCase):
    def check(self, rules, others):
        found = latest_counterexample(rules, others)
        self.assertIs(type(found), tuple)
        calendars, day = found
        self.assertIs(type(calendars), dict)
        self.assertEqual(sorted(calendars), offices_in(all_letters(rules + others)))
        self.assertTrue(all(isinstance(calendar, Calendar) for calendar in calendars.values()))
        self.assertIs(type(day), int)
        self.assertGreater(latest_day(calendars, rules, day), latest_day(calendars, others, day))
        self.assertGreater(max(moved(calendars, rule, day) for rule in rules),
                           max(moved(calendars, rule, day) for rule in others))
        return calendars, day

    def test_calendars(self):
        self.check([["a", "b"]], [["a"], ["b"]])
        self.check([["a"], ["b", "c"]], [["a", "d"], ["c", "b", "e"]])
        self.check([["x", "y"], ["a"], ["b"]], [["x", "y", "a"]])
        self.assertEqual(latest_counterexample(others=[["a"]], rules=[["b"]]), latest_counterexample([["b"]], [["a"]]))

    def test_without_offices(self):
        self.assertEqual(self.check([["+"], []], [[]])[0], {})
        self.assertEqual(self.check([["+", "+"]], [["+"], []])[0], {})

    def test_small_rules(self):
        source = random.Random(111)
        for _ in range(800):
            rules, others = some_rules(source), some_rules(source)
            if latest_never_later(rules, others):
                self.assertIsNone(latest_counterexample(rules, others))
            else:
                calendars, day = self.check(rules, others)
                self.assertGreater(walked_latest(calendars, rules, day), walked_latest(calendars, others, day))

    def test_largest_arguments(self):
        source = random.Random(112)
        for letters in ("ab+", "abcd++++"):
            rules = [[source.choice(letters) for _ in range(200)] for _ in range(20)]
            self.check(rules, [rule[::-1] for rule in rules] + [["+"] * 200])
            self.assertIsNone(latest_counterexample(rules, rules[::-1]))
            self.assertIsNone(latest_counterexample([rule[:150] for rule in rules], rules))
            self.check(rules, rules[:19])

    def test_results_are_equal_and_new(self):
        arguments = [["a"], ["b", "c"]], [["c", "b"], ["a"]]
        calendars, _ = latest_counterexample(*arguments)
        again = latest_counterexample(*arguments)
        self.assertEqual(again[0], calendars)
        calendars.clear()
        self.assertEqual(latest_counterexample(*arguments), again)


class Errors(unittest.TestCase):
    def test_wrong_rules(self):
        for number, value in enumerate(NOT_LISTS_OF_RULES):
            with self.subTest(number):
                self.assertRaises(InvalidRules, normal_rules, value)
                for function in PAIRS:
                    self.assertRaises(InvalidRules, function, value, [["a"]])
                    self.assertRaises(InvalidRules, function, [["a"]], value)
                    self.assertRaises(InvalidRules, function, [["a"], []], value)
                    self.assertRaises(InvalidRules, function, value, value)

    def test_empty_lists(self):
        self.assertRaises(InvalidRules, normal_rules, [])
        self.assertRaises(InvalidRules, latest_day, OFFICES, [], 0)
        for function in PAIRS:
            self.assertRaises(InvalidRules, function, [], [[]])
            self.assertRaises(InvalidRules, function, [[]], [])

    def test_arguments_stay(self):
        rules, others = [["a", "a"], ["b", "+"]], [["b"], [], ["b"]]
        for function in PAIRS:
            function(rules, others)
            function(others, rules)
        latest_day({"a": Calendar("o"), "b": Calendar("o-")}, rules, 0)
        normal_rules(others)
        self.assertEqual((rules, others), ([["a", "a"], ["b", "+"]], [["b"], [], ["b"]]))


if __name__ == "__main__":
    unittest.main()
