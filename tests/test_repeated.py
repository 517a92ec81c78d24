"""The module moves: repeated, repeats_to and round_of."""

import random
import unittest

from daychains.calendars import Calendar
from daychains.moves import moved, repeated, repeats_to, round_of
from model import FAR, Model, some_pattern, some_rule, some_stretches, walked

# Each day of the models below is less far away from 0 than this.
EDGE = 60


def models_of(source, letters, longest=8, most=3):
    """Return models with some stretches within the edge."""
    found = {}
    for letter in letters:
        closed = some_stretches(source, source.randint(0, most), -EDGE + 10, EDGE - 15, source.choice([2, 6, 14]))
        opened = some_stretches(source, source.randint(0, most), -EDGE + 10, EDGE - 15, source.choice([2, 6, 14]))
        found[letter] = Model(some_pattern(source, longest), closed, opened)
    return found


def shifted(models, days):
    """Return the calendars of the models, with all stretches so many days later."""
    found = {}
    for letter, model in models.items():
        closed = [(first + days, last + days) for first, last in model.closed]
        opened = [(first + days, last + days) for first, last in model.opened]
        found[letter] = Calendar(model.pattern, closed=closed, opened=opened)
    return found


def cases(seed, number, letters="ab", longest=8):
    """Yield models, calendars, a rule and a day."""
    source = random.Random(seed)
    for _ in range(number):
        models = models_of(source, letters, longest)
        yield models, shifted(models, 0), some_rule(source, letters + "++", 6), source.randint(-EDGE, EDGE)


def days_of(models, rule, day, times):
    """Return the day and the days after 1, 2 .. repetitions, each found day by day."""
    days = [day]
    for _ in range(times):
        days.append(walked(models, rule, days[-1]))
    return days


def round_by_definition(models, rule, day, longest):
    """Find the round by trying, where it has at most so many times and no stretch lies behind the edge."""
    days = days_of(models, rule, day, EDGE * 3 + 4 * longest)[EDGE * 3 + longest:]
    for times in range(1, longest + 1):
        steps = {later - earlier for earlier, later in zip(days, days[times:])}
        if len(steps) == 1:
            return times, steps.pop()
    raise AssertionError("no round")


class Repeated(unittest.TestCase):
    def test_few_times(self):
        calendars = {"ny": Calendar("ooooo--")}
        self.assertEqual([repeated(calendars, ["ny", "+", "ny"], 3, times) for times in range(8)],
                         [3, 4, 7, 8, 9, 10, 11, 14])
        self.assertEqual([repeated(calendars, ["+", "ny"], 5, times) for times in range(3)], [5, 7, 8])
        self.assertEqual(repeated(times=2, day=5, rule=["ny"], calendars=calendars), 7)

    def test_no_times(self):
        for day in (-FAR, 5, FAR):
            self.assertEqual(repeated({"ny": Calendar("-----oo")}, ["ny", "+"], day, 0), day)

    def test_rules_without_an_office(self):
        for day in (-FAR, 0, FAR):
            self.assertEqual(repeated({}, [], day, FAR), day)
            self.assertEqual(repeated({}, ["+"], day, FAR), day + FAR)
            self.assertEqual(repeated({}, ["+"] * 200, day, FAR - 1), day + 200 * FAR - 200)

    def test_rules_that_rest(self):
        calendars = {"a": Calendar("o-"), "b": Calendar("oo-"), "c": Calendar("-o")}
        self.assertEqual(repeated(calendars, ["a"], 5, FAR), 6)
        self.assertEqual([repeated(calendars, ["b", "a"], 2, times) for times in (0, 1, 2, 3, FAR)], [2, 4, 4, 4, 4])
        self.assertEqual([repeated(calendars, ["a", "b"], 1, times) for times in (0, 1, 2, 3, FAR)], [1, 3, 4, 4, 4])
        self.assertEqual(repeated(calendars, ["a", "c"], 0, FAR), 2 * FAR - 1)

    def test_rules_that_rest_far_away(self):
        # On no day both are open, but for those that are opened: there the rule rests.
        calendars = {"a": Calendar("o-", opened=[(7 * FAR + 1, 7 * FAR + 1)]), "b": Calendar("-o")}
        self.assertEqual(repeated(calendars, ["a", "b"], 0, FAR), 2 * FAR - 1)
        calendars = {"a": Calendar("o-", opened=[(FAR + 1, FAR + 1)]), "b": Calendar("-o")}
        self.assertEqual(repeated(calendars, ["a", "b"], 0, FAR), FAR + 1)
        self.assertEqual(repeated(calendars, ["a", "b"], -2, FAR // 2 + 1), FAR - 1)
        self.assertEqual(repeated(calendars, ["a", "b"], -2, FAR // 2 + 2), FAR + 1)

    def test_working_days(self):
        calendars = {"ny": Calendar("ooooo--", closed=[(FAR, FAR + 9)])}
        for times in (0, 1, 6, 10 ** 29, FAR - 1, FAR):
            self.assertEqual(repeated(calendars, ["ny", "+", "ny"], 0, times), calendars["ny"].nth_open(0, times))
            # The first `+` counts, on an open day and on a closed one.
            for day in (-FAR, 0, FAR + 4):
                later = calendars["ny"].nth_open(day + 1, times - 1) if times > 0 else day
                self.assertEqual(repeated(calendars, ["+", "ny"], day, times), later)

    def test_day_by_day(self):
        for number, (models, calendars, rule, day) in enumerate(cases(61, 250)):
            days = days_of(models, rule, day, 40)
            with self.subTest(number):
                self.assertEqual([repeated(calendars, rule, day, times) for times in range(41)], days)

    def test_day_by_day_for_long(self):
        for number, (models, calendars, rule, day) in enumerate(cases(62, 30, "abc")):
            days = days_of(models, rule, day, 400)
            with self.subTest(number):
                for times in (77, 250, 399, 400):
                    self.assertEqual(repeated(calendars, rule, day, times), days[times])

    def test_the_same_far_away(self):
        for days in (840 * 10 ** 27, -840 * 10 ** 27):
            for number, (models, calendars, rule, day) in enumerate(cases(63, 60, "abc")):
                later = shifted(models, days)
                with self.subTest(number):
                    for times in (1, 3, 50, 10 ** 9, FAR):
                        self.assertEqual(repeated(later, rule, day + days, times),
                                         repeated(calendars, rule, day, times) + days)

    def test_in_two_parts(self):
        source = random.Random(64)
        for number in range(40):
            calendars = {letter: Calendar(some_pattern(source),
                                          closed=some_stretches(source, 20, -FAR, FAR, FAR // 1000),
                                          opened=some_stretches(source, 20, -FAR, FAR, FAR // 10)) for letter in "abc"}
            rule = some_rule(source, "abc++", 8)
            day, times = source.randint(-FAR, FAR), source.randint(0, FAR)
            first = source.randint(0, times)
            half = repeated(calendars, rule, day, first)
            with self.subTest(number):
                self.assertEqual(repeated(calendars, rule, half, times - first), repeated(calendars, rule, day, times))
                self.assertEqual(repeated(calendars, rule, moved(calendars, rule, day), first),
                                 moved(calendars, rule, half))

    def test_long_stretches(self):
        calendars = {"a": Calendar("o-", closed=[(0, FAR - 1)], opened=[(FAR, 2 * FAR - 1)])}
        for times, day in [(0, -5), (1, -2), (2, FAR), (3, FAR + 1), (FAR - 1, 2 * FAR - 3), (FAR, 2 * FAR - 2)]:
            self.assertEqual(repeated(calendars, ["a", "+", "a"], -5, times), day)
        self.assertEqual(repeated(calendars, ["a", "+", "a"], FAR, FAR), 2 * FAR)
        self.assertEqual(repeated(calendars, ["a", "+", "a"], FAR + 1, FAR), 2 * FAR + 2)

    def test_largest_arguments(self):
        source = random.Random(65)
        letters = [first + second for first in "abcdefgh" for second in "abcde"]
        calendars = {letter: Calendar(some_pattern(source),
                                      closed=some_stretches(source, 24, -FAR, FAR, FAR // 10 ** 4),
                                      opened=some_stretches(source, 24, -FAR, FAR, FAR // 10)) for letter in letters}
        rule = (["+"] + letters * 5)[:200]
        day = repeated(calendars, rule, -FAR, 10 ** 29)
        times = repeats_to(calendars, rule, -FAR, day)
        self.assertEqual(repeated(calendars, rule, -FAR, times), day)
        self.assertEqual(repeated(calendars, rule, day, FAR - 10 ** 29), repeated(calendars, rule, -FAR, FAR))

    def test_many_short_stretches(self):
        near = [(16 * number, 16 * number + number % 9) for number in range(200)]
        far = [(first * FAR // 10 ** 4, first * FAR // 10 ** 4 + last - first) for first, last in near]
        calendars = {"a": Calendar("oooooo-", closed=far), "b": Calendar("ooooooo-", closed=near, opened=far),
                     "c": Calendar("oooo-"), "d": Calendar("o-o")}
        day = repeated(calendars, ["+", "a", "b", "c", "d"], -FAR, FAR)
        self.assertEqual(repeated(calendars, ["+", "a", "b", "c", "d"], repeated(
            calendars, ["+", "a", "b", "c", "d"], -FAR, FAR // 3), FAR - FAR // 3), day)


class RepeatsTo(unittest.TestCase):
    def test_least_times(self):
        calendars = {"ny": Calendar("ooooo--")}
        self.assertEqual([repeats_to(calendars, ["ny", "+", "ny"], 0, goal) for goal in range(9)],
                         [0, 1, 2, 3, 4, 5, 5, 5, 6])
        self.assertEqual(repeats_to(goal=12, day=0, rule=["ny", "+", "ny"], calendars=calendars), 10)

    def test_goals_that_are_not_later(self):
        calendars = {"ny": Calendar("o-")}
        for rule in ([], ["+"], ["ny"], ["+", "ny"]):
            for goal in (5, 4, -FAR):
                self.assertEqual(repeats_to(calendars, rule, 5, goal), 0)

    def test_never(self):
        calendars = {"a": Calendar("o-"), "b": Calendar("o--"), "c": Calendar("o", closed=[(0, FAR)])}
        self.assertIsNone(repeats_to({}, [], 0, 1))
        self.assertIsNone(repeats_to(calendars, ["a"], 0, 1))
        self.assertIsNone(repeats_to(calendars, ["a"], 1, 3))
        self.assertEqual(repeats_to(calendars, ["a"], 1, 2), 1)
        self.assertEqual(repeats_to(calendars, ["a", "b"], 1, 6), 2)
        self.assertIsNone(repeats_to(calendars, ["a", "b"], 1, 7))
        self.assertIsNone(repeats_to(calendars, ["a", "b"], -FAR, FAR))
        self.assertEqual(repeats_to(calendars, ["c"], 0, FAR + 1), 1)
        self.assertIsNone(repeats_to(calendars, ["c"], 0, FAR + 2))

    def test_rules_without_an_office(self):
        self.assertEqual(repeats_to({}, ["+"], -FAR, FAR), 2 * FAR)
        self.assertEqual(repeats_to({}, ["+"] * 7, 0, FAR), -(-FAR // 7))
        self.assertEqual([repeats_to({}, ["+"] * 7, 0, goal) for goal in (1, 7, 8, 14, 15)], [1, 1, 2, 2, 3])

    def test_working_days(self):
        calendar = Calendar("ooooo--", closed=[(12, FAR // 2)], opened=[(FAR // 2 + 20, FAR)])
        for goal in (11, 12, 13, FAR // 2 + 1, FAR // 2 + 30, FAR, FAR + 1, 10 ** 31 - 1):
            self.assertEqual(repeats_to({"ny": calendar}, ["ny", "+", "ny"], 0, goal),
                             calendar.count_open(0, goal - 1))

    def test_day_by_day(self):
        for number, (models, calendars, rule, day) in enumerate(cases(71, 250)):
            days = days_of(models, rule, day, 60)
            with self.subTest(number):
                for goal in range(day - 2, day + 50):
                    times = [at for at, reached in enumerate(days) if reached >= goal]
                    self.assertEqual(repeats_to(calendars, rule, day, goal), times[0] if times else None)

    def test_against_repeated(self):
        source = random.Random(72)
        for number in range(40):
            calendars = {letter: Calendar(some_pattern(source),
                                          closed=some_stretches(source, 20, -FAR, FAR, FAR // 1000),
                                          opened=some_stretches(source, 20, -FAR, FAR, FAR // 10)) for letter in "abc"}
            rule = some_rule(source, "abc++", 8) + ["+"]
            day = source.randint(-FAR, 0)
            goal = source.randint(day + 1, day + FAR)
            times = repeats_to(calendars, rule, day, goal)
            with self.subTest(number):
                self.assertGreaterEqual(repeated(calendars, rule, day, times), goal)
                self.assertLess(repeated(calendars, rule, day, times - 1), goal)


class RoundOf(unittest.TestCase):
    def test_simple_rounds(self):
        calendars = {"ny": Calendar("ooooo--"), "a": Calendar("o-"), "b": Calendar("o--")}
        for rule, expected in [
                (["ny", "+", "ny"], (5, 7)), (["ny"], (1, 0)), ([], (1, 0)), (["+"], (1, 1)), (["+"] * 7, (1, 7)),
                (["+", "a"], (1, 2)), (["+", "b"], (1, 3)), (["a", "+"], (1, 2)), (["a", "b"], (1, 0)),
                (["a", "+", "b"], (1, 3)), (["+", "a", "b"], (1, 3)), (["+", "+", "ny"], (3, 7)),
                (["+", "a", "ny"], (6, 14))]:
            with self.subTest(rule):
                self.assertIs(type(round_of(calendars, rule, 0)), tuple)
                self.assertEqual(round_of(calendars, rule, 0), expected)
                self.assertEqual(round_of(day=-FAR, rule=rule, calendars=calendars), expected)

    def test_patterns_that_repeat_within_themselves(self):
        for pattern, expected in [("o", (1, 1)), ("oo", (1, 1)), ("oooooooo", (1, 1)), ("o-o-", (1, 2)),
                                  ("-o-o-o-o", (1, 2)), ("o--o--", (1, 3)), ("oo-oo-", (2, 3)), ("o-ooo-oo", (3, 4))]:
            with self.subTest(pattern):
                self.assertEqual(round_of({"a": Calendar(pattern)}, ["+", "a"], 3), expected)

    def test_moves_that_come_again_sooner_than_the_places(self):
        # The days that are reached are all open for `a`, at several places of its pattern.
        calendars = {"a": Calendar("oooooooo"), "b": Calendar("o--")}
        self.assertEqual(round_of(calendars, ["+", "a", "b"], 0), (1, 3))
        calendars = {"a": Calendar("oo-oo--"), "b": Calendar("o---")}
        self.assertEqual(round_of(calendars, ["+", "b", "+", "+", "b"], 0), (1, 8))
        calendars = {"a": Calendar("ooooooo-")}
        self.assertEqual(round_of(calendars, ["+", "+", "a"], 0), (1, 2))
        self.assertEqual(round_of(calendars, ["+", "+", "a"], 1), (1, 2))
        self.assertEqual(round_of(calendars, ["+", "+", "+", "+", "a"], 1), (1, 4))
        # 1, 4, 8, 11, 14, 17, 20, 24
        self.assertEqual(round_of(calendars, ["+", "+", "+", "a"], 1), (5, 16))

    def test_the_longest_round(self):
        calendars = {"a": Calendar("ooooooo-"), "b": Calendar("oooooo-"), "c": Calendar("oooo-"), "d": Calendar("oo-")}
        rule = ["+", "a", "b", "c", "d"] + ["a", "b", "c", "d"] * 6
        # 7 of 8, 6 of 7, 4 of 5 and 2 of 3 days are open: as many common days are there in 840 days.
        self.assertEqual(round_of(calendars, rule, 0), (7 * 6 * 4 * 2, 840))

    def test_stretches_end_some_day(self):
        calendar = Calendar("ooooo--", closed=[(0, FAR)], opened=[(FAR + 1, 2 * FAR), (10 ** 31 - 9, 10 ** 31 - 1)])
        for day in (-10 ** 31, -FAR, 0, FAR, 10 ** 31 - 2):
            self.assertEqual(round_of({"ny": calendar}, ["ny", "+", "ny"], day), (5, 7))
            self.assertEqual(round_of({"ny": calendar}, ["+", "+", "ny"], day), (3, 7))
            self.assertEqual(round_of({"ny": calendar}, ["ny"], day), (1, 0))

    def test_a_stretch_can_let_the_rule_rest(self):
        calendars = {"a": Calendar("o-", opened=[(FAR + 1, FAR + 1)]), "b": Calendar("-o")}
        self.assertEqual(round_of(calendars, ["a", "b"], -FAR), (1, 0))
        self.assertEqual(round_of(calendars, ["a", "b"], FAR + 1), (1, 0))
        self.assertEqual(round_of(calendars, ["a", "b"], FAR + 2), (1, 2))
        calendars = {"a": Calendar("oooo--", closed=[(FAR, FAR + 9)]), "b": Calendar("--o")}
        self.assertEqual(round_of(calendars, ["a", "b"], FAR - 7), (1, 0))

    def test_a_stretch_can_lead_to_another_round(self):
        # Every second open day: 0, 3, 6, 9 .. or 1, 5, 7, 11 .., and a closed day leads from one to the other.
        rule = ["+", "a", "+", "a"]
        plain = {"a": Calendar("oo-o-o")}
        self.assertEqual([round_of(plain, rule, 0), round_of(plain, rule, 1)], [(1, 3), (2, 6)])
        for closed in (5, 10 ** 29 + 1, FAR + 1):
            changed = {"a": plain["a"].with_closed(closed, closed)}
            self.assertEqual([round_of(changed, rule, 0), round_of(changed, rule, 1)], [(2, 6), (1, 3)])
            self.assertEqual([round_of(changed, rule, 6 * FAR), round_of(changed, rule, 6 * FAR + 1)], [(1, 3), (2, 6)])

    def test_day_by_day(self):
        for number, (models, calendars, rule, day) in enumerate(cases(81, 250, longest=4)):
            with self.subTest(number):
                self.assertEqual(round_of(calendars, rule, day), round_by_definition(models, rule, day, 12))

    def test_day_by_day_with_longer_patterns(self):
        for number, (models, calendars, rule, day) in enumerate(cases(82, 40, "abc")):
            with self.subTest(number):
                self.assertEqual(round_of(calendars, rule, day), round_by_definition(models, rule, day, 840))

    def test_against_repeated(self):
        source = random.Random(83)
        for number in range(30):
            calendars = {letter: Calendar(some_pattern(source),
                                          closed=some_stretches(source, 10, -FAR, FAR, FAR // 1000),
                                          opened=some_stretches(source, 10, -FAR, FAR, FAR // 10)) for letter in "abcd"}
            rule = some_rule(source, "abcd++", 8)
            times, days = round_of(calendars, rule, -FAR)
            late = repeated(calendars, rule, repeated(calendars, rule, repeated(
                calendars, rule, -FAR, FAR), FAR), FAR)
            with self.subTest(number):
                self.assertEqual(repeated(calendars, rule, late, times), late + days)
                self.assertEqual(repeated(calendars, rule, late, times * 10 ** 9), late + days * 10 ** 9)


if __name__ == "__main__":
    unittest.main()
