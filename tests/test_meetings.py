"""The module meetings: next_common, fewest_moves and needed_days, and the errors of the whole module."""

import itertools
import random
import unittest

from daychains.calendars import Calendar
from daychains.errors import InvalidCalendars, InvalidDay, NoCommonDay, TooMany, UnknownOffice
from daychains.meetings import fewest_moves, needed_days, next_common, shows_needed
from daychains.moves import moved
from daychains.rules import is_rule
from model import FAR, days_about, far_pairs, small_offices, some_pattern
from values import ANY_VALUES, NO_INTEGERS, NOT_CALENDARS

OFFICES = {"a": Calendar("o", closed=[(0, 4)]), "b": Calendar("o", closed=[(2, 6)]),
           "c": Calendar("o", closed=[(5, 9)])}
APART = {"a": Calendar("o-"), "b": Calendar("-o")}
# By turns one office is open on a day, from day 0 on; their common days are those before.
LADDER = {"a": Calendar("o-", opened=[(-99, -1)]), "b": Calendar("-o", opened=[(-99, -1)])}


def shown(calendars, day, *offices):
    return shows_needed(calendars, day, [], *offices)


FUNCTIONS = [next_common, fewest_moves, needed_days, shown]


def ladder(steps):
    """Return calendars for which so many moves are needed from day 0 on."""
    return {key: Calendar(LADDER[key].pattern, opened=[(steps, steps)]) for key in LADDER}


class NextCommon(unittest.TestCase):
    def test_answers(self):
        self.assertEqual([next_common(OFFICES, day) for day in (-3, -1, 0, 7, 9, 10, 11, FAR)],
                         [-3, -1, 10, 10, 10, 10, 11, FAR])
        self.assertEqual([next_common(OFFICES, 0, "a"), next_common(OFFICES, 0, "b"), next_common(OFFICES, 0, "c")],
                         [5, 0, 0])
        self.assertEqual([next_common(OFFICES, 0, "a", "b"), next_common(OFFICES, 2, "c", "b")], [7, 10])
        self.assertEqual(next_common(day=0, calendars=OFFICES), 10)

    def test_without_offices(self):
        for day in (-FAR, 0, 7, FAR):
            self.assertEqual(next_common({}, day), day)

    def test_offices_named_twice(self):
        self.assertEqual(next_common(OFFICES, 0, "a", "a"), 5)
        self.assertEqual(next_common(OFFICES, 0, *["a", "b"] * 10), 7)

    def test_none(self):
        for day in (-FAR, -1, 0, 1, FAR):
            self.assertIsNone(next_common(APART, day))
            self.assertIsNone(next_common(APART, day, "b", "a", "b"))
            self.assertEqual(next_common(APART, day, "a"), day + day % 2)
        self.assertEqual([next_common(LADDER, day) for day in (-FAR, -100, -99, -1, 0)], [-99, -99, -99, -1, None])
        self.assertIsNone(next_common({"a": Calendar("--o---o-"), "b": Calendar("o---")}, 5))

    def test_all_patterns(self):
        source = random.Random(261)
        for _ in range(300):
            patterns = [some_pattern(source) for _ in range(source.randint(1, 4))]
            calendars = {key: Calendar(pattern) for key, pattern in zip("abcd", patterns)}
            start = source.choice([-FAR, -7, 0, FAR]) + source.randint(-900, 900)
            days = range(start, start + 840)
            expected = next((day for day in days if all(entry[day % len(entry)] == "o" for entry in patterns)), None)
            self.assertEqual(next_common(calendars, start), expected)

    def test_the_longest_wait(self):
        # These patterns meet once in 840 days.
        calendars = {"a": Calendar("o-------"), "b": Calendar("o------"), "c": Calendar("o----"), "d": Calendar("o--")}
        for day, expected in [(0, 0), (1, 840), (840, 840), (-839, 0), (840 * FAR + 1, 840 * FAR + 840)]:
            self.assertEqual(next_common(calendars, day), expected)

    def test_day_by_day(self):
        source = random.Random(262)
        for calendars, models in small_offices(263, 150):
            meant = source.choice([(), ("a",), ("a", "b"), ("c", "b", "c")])
            day = source.randint(-60, 60)
            days = [each for each in range(day, day + 1000)
                    if all(models[key].is_open(each) for key in meant or calendars)]
            self.assertEqual(next_common(calendars, day, *meant), days[0] if days else None)

    def test_far(self):
        calendars = {"a": Calendar("o-", opened=[(FAR, FAR + 5)]), "b": Calendar("-o", closed=[(FAR, FAR + 2)])}
        self.assertEqual([next_common(calendars, day) for day in (-FAR, 0, FAR + 4, FAR + 6)],
                         [FAR + 3, FAR + 3, FAR + 5, None])
        calendars = {"a": Calendar("o", closed=[(-FAR, FAR)]), "b": Calendar("o", closed=[(FAR + 2, 2 * FAR)])}
        self.assertEqual([next_common(calendars, day) for day in (-FAR - 1, -FAR, 0, FAR + 2)],
                         [-FAR - 1, FAR + 1, FAR + 1, 2 * FAR + 1])

    def test_far_stretches(self):
        source = random.Random(264)
        pairs = list(far_pairs(265, 12))
        for number in range(0, 12, 3):
            calendars = dict(zip("abc", [pair[0] for pair in pairs[number:number + 3]]))
            for day in days_about(source, pairs[number][1], 12):
                found = next_common(calendars, day)
                if found is not None:
                    self.assertTrue(found >= day and all(entry.is_open(found) for entry in calendars.values()))
                    # By the fewest moves no common day before is passed.
                    reached = day
                    for _ in range(100):
                        reached = max(entry.next_open(reached) for entry in calendars.values())
                    self.assertLessEqual(reached, found)

    def test_largest_sizes(self):
        source = random.Random(266)
        names = [first + second for first in "abcdefgh" for second in "abcde"]
        calendars = {}
        for name in names:
            starts = sorted(source.sample(range(-10 ** 6, 10 ** 6), 200))
            closed = [(start * 10 ** 24, start * 10 ** 24 + 10 ** 29) for start in starts]
            calendars[name] = Calendar(source.choice(["o-------", "-o------", "--o-", "o-"]), closed=closed,
                                       opened=[(start * 10 ** 24 + 7, start * 10 ** 24 + 7) for start in starts])
        self.assertIsNone(next_common(calendars, -FAR))
        self.assertRaises(NoCommonDay, fewest_moves, calendars, -FAR)
        last = max(entry.next_open(3 * FAR) for entry in calendars.values())
        for name in names:
            calendars[name] = calendars[name].with_opened(3 * FAR, 3 * FAR)
        self.assertEqual(next_common(calendars, -FAR), 3 * FAR)
        self.assertGreater(last, 3 * FAR - 1)


class FewestMoves(unittest.TestCase):
    def check(self, calendars, day, *offices):
        """Check what the results fulfil by themselves, and return how many letters there are."""
        rule = fewest_moves(calendars, day, *offices)
        days = needed_days(calendars, day, *offices)
        goal = next_common(calendars, day, *offices)
        self.assertTrue(is_rule(rule))
        self.assertLessEqual(set(rule), set(offices or calendars))
        self.assertEqual(moved(calendars, rule, day), goal)
        self.assertIs(type(days), list)
        self.assertEqual(days, sorted(set(days)))
        self.assertEqual(len(days), len(rule))
        # A second list of days that nothing can pass by one letter shows that no rule has fewer letters.
        self.assertIs(shows_needed(calendars, day, days, *offices), True)
        for low, high in zip(days, days[1:]):
            self.assertTrue(all(calendars[key].next_open(low) <= high for key in offices or calendars))
        return len(rule)

    def test_answers(self):
        self.assertEqual(fewest_moves(OFFICES, 0), ["a", "c"])
        self.assertEqual(fewest_moves(OFFICES, 0, "a"), ["a"])
        self.assertEqual(fewest_moves(OFFICES, 0, "b", "a"), ["a", "b"])
        self.assertEqual(fewest_moves(day=6, calendars=OFFICES), ["c"])
        self.assertEqual([self.check(OFFICES, day) for day in (-1, 0, 1, 2, 4, 5, 9, 10)], [0, 2, 2, 2, 2, 1, 1, 0])

    def test_a_common_day(self):
        for function in (fewest_moves, needed_days):
            self.assertEqual([function(OFFICES, day) for day in (-FAR, -1, 10, FAR)], [[], [], [], []])
            self.assertEqual([function({}, day) for day in (-FAR, 0, FAR)], [[], [], []])

    def test_offices_named_twice(self):
        for offices in (("a", "b"), ("b", "a", "b"), ("a", "a", "b", "b")):
            self.assertEqual(self.check(OFFICES, 0, *offices), 2)

    def test_all_rules_are_longer(self):
        source = random.Random(271)
        for calendars, _ in small_offices(272, 120):
            day = source.randint(-35, 35)
            meant = source.choice([(), ("a",), ("a", "b"), ("c", "b", "c")])
            goal = next_common(calendars, day, *meant)
            if goal is None:
                continue
            size = self.check(calendars, day, *meant)
            reached = {day}
            for _ in range(size):
                self.assertNotIn(goal, reached)
                letters = [[letter] for letter in list(meant or calendars) + ["+"]]
                reached = {moved(calendars, letter, each) for letter in letters for each in reached}
            self.assertIn(goal, reached)

    def test_the_greatest_number_of_days(self):
        # Guarantee (d), by all lists of days before the common one.
        source = random.Random(273)
        tried = 0
        for calendars, models in small_offices(274, 150, "ab"):
            day = source.randint(-20, 20)
            goal = next_common(calendars, day)
            if goal is None or goal - day > 10:
                continue
            size = self.check(calendars, day)
            most = 0
            for many in range(goal - day + 1):
                for days in itertools.combinations(range(day, goal), many):
                    if all(any(entry.is_open(each) for each in range(low, high + 1))
                           for low, high in zip(days, days[1:]) for entry in models.values()):
                        most = max(most, many)
            self.assertEqual(size, most)
            tried += 1
        self.assertGreater(tried, 60)

    def test_far(self):
        calendars = {"a": Calendar("o", closed=[(-FAR, -1), (1, FAR)]), "b": Calendar("o", closed=[(0, 0)])}
        self.assertEqual(self.check(calendars, -FAR), 3)
        self.assertEqual(fewest_moves(calendars, -FAR), ["a", "b", "a"])
        calendars = {"a": Calendar("o-", opened=[(FAR, FAR)]), "b": Calendar("-o", closed=[(1, FAR - 4)],
                                                                              opened=[(FAR, FAR)])}
        self.assertEqual(self.check(calendars, 0), 4)

    def test_the_limit(self):
        for steps in (0, 1, 399, 400):
            self.assertEqual(self.check(ladder(steps), 0), steps)
        for steps in (401, 402, FAR):
            for function in (fewest_moves, needed_days):
                with self.assertRaises(TooMany) as caught:
                    function(ladder(steps), 0)
                self.assertEqual(caught.exception.limit, 400)
            self.assertEqual(next_common(ladder(steps), 0), steps)
            self.assertIs(shows_needed(ladder(steps), 0, list(range(410))), steps >= 410)

    def test_no_common_day(self):
        for function in (fewest_moves, needed_days):
            for day in (-FAR, 0, FAR):
                self.assertRaises(NoCommonDay, function, APART, day)
                self.assertRaises(NoCommonDay, function, APART, day, "b", "a")
            self.assertRaises(NoCommonDay, function, LADDER, 0)
            self.assertEqual(function(LADDER, -1), [])

    def test_no_common_day_is_due_before_too_many(self):
        calendars = {"a": Calendar("o-", closed=[(2000, 3000)]), "b": Calendar("-o")}
        self.assertRaises(NoCommonDay, fewest_moves, calendars, 0)
        self.assertRaises(NoCommonDay, needed_days, calendars, 0)

    def test_equal_calls(self):
        # Equal dicts may have their offices in another order, and equal calendars other patterns.
        other = {"c": Calendar("ooo", closed=[(5, 9)]), "b": Calendar("oo", closed=[(2, 6)]), "a": OFFICES["a"]}
        same = {"a": Calendar("o", closed=[(0, 3)]), "b": Calendar("o", closed=[(0, 3)])}
        turned = {"b": same["b"], "a": same["a"]}
        for function in (fewest_moves, needed_days):
            self.assertEqual(function(other, 0), function(OFFICES, 0))
            self.assertEqual(function(same, 0), function(turned, 0))
            self.assertEqual(function(same, 0, "b", "a"), function(turned, 0, "b", "a"))

    def test_results_are_new(self):
        for function in (fewest_moves, needed_days):
            found = function(OFFICES, 0)
            function(OFFICES, 0).append(7)
            self.assertEqual(function(OFFICES, 0), found)
            function({}, 0).append(7)
            self.assertEqual(function({}, 0), [])


class Errors(unittest.TestCase):
    def test_calendars(self):
        for number, value in enumerate(NOT_CALENDARS):
            for function in FUNCTIONS:
                with self.subTest(number):
                    self.assertRaises(InvalidCalendars, function, value, 0)
                    self.assertRaises(InvalidCalendars, function, value, None, "ny")

    def test_days(self):
        for number, value in enumerate(NO_INTEGERS):
            for function in FUNCTIONS:
                with self.subTest(number):
                    self.assertRaises(InvalidDay, function, OFFICES, value)
                    self.assertRaises(InvalidDay, function, {}, value, "a")
                    self.assertRaises(InvalidDay, function, APART, value, None)

    def test_unknown_offices(self):
        for number, value in enumerate(ANY_VALUES + ["ny", "aa", "+", ["a"], ("a",)]):
            for function in FUNCTIONS:
                with self.subTest(number):
                    for offices in [(value,), ("a", value), (value, "x"), ("a", "b", value, None)]:
                        with self.assertRaises(UnknownOffice) as caught:
                            function(APART, 0, *offices)
                        self.assertIs(caught.exception.office, value)
                    self.assertRaises(UnknownOffice, function, {}, 0, value)

    def test_arguments_stay(self):
        calendars = dict(OFFICES)
        for function in FUNCTIONS:
            function(calendars, 0)
            function(calendars, 0, "c", "a")
        self.assertEqual((list(calendars), calendars), (["a", "b", "c"], OFFICES))


class ShowsNeeded(unittest.TestCase):
    def test_answers(self):
        for value, expected in [
                ([], True), ([0], True), ([9], True), ([0, 5], True), ([4, 7], True), ([0, 3], False), ([5, 9], False),
                ([0, 5, 9], False), ([10], False), ([-1], False), ([-1, 5], False), ([0, 10], False), ([0, 11], False),
                ([5, 0], False), ([0, 0], False), ([7, 4], False), ([1, 6], True), ([FAR], False), ([0, 5, 5], False),
                ([3, 5, 10], False), ((0, 5), False), (None, False), (0, False), ("", False), ((), False),
                ([True], False), ([0, True], False), ([0, "5"], False), ([[0], [5]], False), ([(0, 5)], False)]:
            with self.subTest(value=value):
                self.assertIs(shows_needed(OFFICES, 0, value), expected)
        self.assertIs(shows_needed(value=[0, 5], day=0, calendars=OFFICES), True)

    def test_some_offices(self):
        self.assertIs(shows_needed(OFFICES, 0, [0, 5], "a", "b"), True)
        self.assertIs(shows_needed(OFFICES, 0, [0, 7], "a", "b"), False)
        self.assertIs(shows_needed(OFFICES, 0, [0], "a"), True)
        self.assertIs(shows_needed(OFFICES, 0, [0, 4], "a"), False)
        self.assertIs(shows_needed(OFFICES, 0, [0], "b"), False)
        self.assertIs(shows_needed(OFFICES, 0, [], "b", "b"), True)

    def test_a_common_day(self):
        for calendars, day in [(OFFICES, 10), (OFFICES, -FAR), ({}, 5)]:
            self.assertIs(shows_needed(calendars, day, []), True)
            for value in ([day], [day - 1], [day, day], [day + 1]):
                self.assertIs(shows_needed(calendars, day, value), False)

    def test_no_common_day(self):
        for value in ([], [0], [0, 1], None, [None]):
            self.assertIs(shows_needed(APART, 0, value), False)

    def test_any_value(self):
        for number, value in enumerate(ANY_VALUES):
            with self.subTest(number):
                empty = isinstance(value, list) and len(value) == 0
                one = isinstance(value, list) and value == [1]
                self.assertIs(shows_needed(OFFICES, 0, value), empty or one)
                self.assertIs(shows_needed(OFFICES, 0, [value]), type(value) is int and 0 <= value < 10)
                self.assertIs(shows_needed(OFFICES, 0, [0, value]), type(value) is int and 5 <= value < 10)
                self.assertIs(shows_needed(APART, 0, value), False)
                self.assertRaises(InvalidDay, shows_needed, OFFICES, None, value)
                self.assertRaises(UnknownOffice, shows_needed, OFFICES, 0, value, "x")

    def test_all_lists_of_days(self):
        source = random.Random(281)
        for calendars, models in small_offices(282, 60, "ab"):
            day = source.randint(-20, 20)
            goal = next_common(calendars, day)
            near = range(day - 2, day + 12)
            for value in [list(days) for size in (1, 2, 3) for days in itertools.product(near, repeat=size)][::53]:
                within = goal is not None and value == sorted(set(value)) and day <= value[0] and value[-1] < goal
                expected = within and all(any(entry.is_open(each) for each in range(low, high + 1))
                                          for low, high in zip(value, value[1:]) for entry in models.values())
                self.assertIs(shows_needed(calendars, day, value), expected)

    def test_far(self):
        calendars = {"a": Calendar("o", closed=[(-FAR, -1), (1, FAR)]), "b": Calendar("o", closed=[(0, 0)])}
        for value, expected in [([-FAR, 0, 1], True), ([-FAR, 0, FAR], True), ([-FAR, -1], False),
                                ([-FAR - 1, 0], False), ([0, 1], True), ([1, FAR], False), ([FAR + 1], False)]:
            self.assertIs(shows_needed(calendars, -FAR, value), expected)


if __name__ == "__main__":
    unittest.main()
