"""The module logs: find_clash, known_state and day_range."""

import itertools
import random
import unittest

from daychains.calendars import Calendar
from daychains.errors import InvalidDay, InvalidLog, InvalidOffice, InvalidRule, LogClash
from daychains.logs import day_range, find_clash, known_state
from daychains.moves import moved
from model import FAR, far_pairs, some_rule
from values import ANY_VALUES, NO_INTEGERS, NO_LISTS, NO_STRINGS, NOT_RULES

LOG = [("ny", 5, 7), ("ny", 3, 3)]
CLASH = [("ny", 5, 7), ("ldn", 6, 6), ("ny", 6, 6)]
NOT_OFFICES = NO_STRINGS + ["", "+", "Ny", "n y", "ny ", "abcdefghi", "n1", "\u00e9"]
BEHIND = 10 ** 6

NO_ENTRIES = [(), ("ny",), ("ny", 5), ("ny", 5, 7, 7), ["ny", 5, 7], ("+", 5, 7), ("", 5, 7), ("Ny", 5, 7), (1, 5, 7),
              (None, 5, 7), ("ny", None, 7), ("ny", 5, None), ("ny", True, 7), ("ny", 0, True), ("ny", "5", 7),
              ("ny", 5, "7"), ("ny", 7, 5), ("ny", 5, 4), ("ny", FAR, -FAR), (("ny", 5, 7),), "ny5", ("ny", (5,), 7)]


def agrees(opened, log):
    """Return whether sets of open days agree with the log; `opened` is a dict from offices to such sets."""
    return all(next_in(opened[office], day) == result for office, day, result in log if office in opened)


def next_in(days, day):
    return min([each for each in days if each >= day])


def all_opened(last):
    """Return all sets of open days from 0 to the last one; behind it all are open, or none for a long time."""
    days = range(last + 1)
    chosen = [set(entry) for size in range(last + 2) for entry in itertools.combinations(days, size)]
    return [entry | tail for entry in chosen for tail in (set(range(last + 1, last + 20)), {BEHIND})]


def some_log(source, offices, last, most):
    """Return a log whose days are those from 0 to the last one."""
    log = []
    for _ in range(source.randint(0, most)):
        day = source.randint(0, last)
        log.append((source.choice(offices), day, source.randint(day, min(last, day + 2))))
    return log


class FindClash(unittest.TestCase):
    def test_answers(self):
        for log, expected in [
                ([], None), (LOG, None), (CLASH, (0, 2)), ([("a", 0, 0)], None), ([("a", 0, 5)], None),
                ([("a", 0, 5), ("a", 0, 5)], None), ([("a", 0, 5), ("a", 3, 5)], None),
                ([("a", 0, 5), ("a", 5, 5)], None),
                ([("a", 0, 5), ("a", 4, 6)], (0, 1)), ([("a", 4, 6), ("a", 0, 5)], (0, 1)),
                ([("a", 0, 5), ("a", 0, 4)], (0, 1)), ([("a", 0, 4), ("a", 0, 5)], (0, 1)),
                ([("a", 0, 5), ("a", 0, 0)], (0, 1)), ([("a", 0, 0), ("a", 0, 5)], (0, 1)),
                ([("a", 0, 5), ("a", -3, -1)], None), ([("a", 0, 5), ("a", -3, 0)], (0, 1)),
                ([("a", 0, 5), ("a", 6, 9)], None), ([("a", 0, 5), ("a", 5, 9)], (0, 1)),
                ([("a", 0, 5), ("b", 4, 6)], None), ([("a", -FAR, FAR), ("a", 0, 0)], (0, 1)),
                ([("a", -FAR, FAR), ("a", FAR, FAR), ("a", FAR + 1, FAR + 1)], None)]:
            with self.subTest(log=log):
                self.assertEqual(find_clash(log), expected)
        self.assertEqual(find_clash(log=CLASH), (0, 2))
        self.assertIs(type(find_clash(CLASH)), tuple)

    def test_entries_between(self):
        log = [("b", 0, 9), ("a", 0, 5), ("c", 4, 4), ("aa", 4, 4), ("a", 9, 9), ("a", 4, 4)]
        self.assertEqual(find_clash(log), (1, 5))
        self.assertEqual(find_clash(log + [("b", 3, 3)]), (1, 5))

    def test_the_smallest_second_and_then_the_smallest_first(self):
        self.assertEqual(find_clash([("a", 0, 9), ("b", 0, 9), ("b", 5, 5), ("a", 5, 5)]), (1, 2))
        self.assertEqual(find_clash([("a", 0, 9), ("b", 5, 5), ("a", 1, 9), ("a", 4, 4)]), (0, 3))
        self.assertEqual(find_clash([("a", 4, 4), ("a", 5, 5), ("a", 5, 9), ("a", 0, 9)]), (1, 2))

    def test_against_the_definition(self):
        source = random.Random(301)
        for _ in range(2000):
            log = some_log(source, ["a", "b"], 7, 6)
            pairs = [(first, second) for first, second in itertools.combinations(range(len(log)), 2)
                     if log[first][0] == log[second][0]
                     and (log[first][2] in range(*log[second][1:]) or log[second][2] in range(*log[first][1:]))]
            expected = min(pairs, key=lambda pair: pair[::-1], default=None)
            self.assertEqual(find_clash(log), expected)

    def test_some_calendars_agree_if_nothing_clashes(self):
        source = random.Random(302)
        candidates = all_opened(5)
        for _ in range(300):
            log = some_log(source, ["a"], 5, 4)
            self.assertEqual(find_clash(log) is None, any(agrees({"a": opened}, log) for opened in candidates))

    def test_longest_logs(self):
        log = [("a", 10 * at, 10 * at + 5) for at in range(199)]
        self.assertIsNone(find_clash(log))
        self.assertEqual(find_clash(log + [("a", 1984, 1984)]), (198, 199))


class KnownState(unittest.TestCase):
    def test_answers(self):
        self.assertEqual([known_state(LOG, "ny", day) for day in range(2, 9)],
                         ["free", "open", "free", "closed", "closed", "open", "free"])
        self.assertEqual([known_state(LOG, "ldn", day) for day in range(2, 9)], ["free"] * 7)
        self.assertEqual([known_state([], "ny", day) for day in (-FAR, 0, FAR)], ["free"] * 3)
        self.assertEqual(known_state(day=5, office="ny", log=LOG), "closed")

    def test_several_entries(self):
        log = [("a", 3, 5), ("b", 0, 9), ("a", 0, 2), ("a", 4, 5), ("a", 8, 8)]
        expected = ["free", "closed", "closed", "open", "closed", "closed", "open", "free", "free", "open", "free"]
        self.assertEqual([known_state(log, "a", day) for day in range(-1, 10)], expected)

    def test_far(self):
        log = [("a", -FAR, FAR)]
        self.assertEqual([known_state(log, "a", day) for day in (-FAR - 1, -FAR, 0, FAR - 1, FAR, FAR + 1)],
                         ["free", "closed", "closed", "closed", "open", "free"])

    def test_all_calendars_that_agree(self):
        source = random.Random(311)
        candidates = all_opened(5)
        for _ in range(150):
            log = some_log(source, ["a", "b"], 5, 4)
            if find_clash(log) is not None:
                continue
            agreed = [opened for opened in candidates if agrees({"a": opened}, log)]
            for day in range(7):
                states = {day in opened for opened in agreed}
                expected = "free" if len(states) == 2 else "open" if states == {True} else "closed"
                self.assertEqual(known_state(log, "a", day), expected)


class DayRange(unittest.TestCase):
    def test_answers(self):
        self.assertEqual(day_range(LOG, ["ny", "+", "ny"], 4), (7, None))
        self.assertEqual([day_range(LOG, ["ny"], day) for day in range(2, 9)],
                         [(2, 3), (3, 3), (4, 7), (7, 7), (7, 7), (7, 7), (8, None)])
        self.assertEqual(day_range(LOG, ["+", "ny", "+"], 1), (3, 4))
        self.assertEqual(day_range(LOG, ["ny", "+", "ny"], 2), (3, 7))
        self.assertEqual(day_range(rule=["ny"], day=4, log=LOG), (4, 7))
        self.assertIs(type(day_range(LOG, ["ny"], 4)), tuple)

    def test_without_offices(self):
        for log in ([], LOG):
            for day in (-FAR, 0, 5, FAR):
                self.assertEqual(day_range(log, [], day), (day, day))
                self.assertEqual(day_range(log, ["+"], day), (day + 1, day + 1))
                self.assertEqual(day_range(log, ["+"] * 200, day), (day + 200, day + 200))

    def test_offices_that_the_log_does_not_have(self):
        for log in ([], LOG):
            self.assertEqual(day_range(log, ["ldn"], 5), (5, None))
            self.assertEqual(day_range(log, ["+", "ldn", "+"], 5), (7, None))
            self.assertEqual(day_range(log, ["ldn", "ny"], 0), (0, None))
        self.assertEqual(day_range(LOG, ["ny", "ldn"], 5), (7, None))

    def test_behind_the_last_result(self):
        self.assertEqual(day_range([("a", 5, 5)], ["a", "+", "a"], 3), (4, None))
        self.assertEqual(day_range([("a", 5, 5), ("a", 6, 6)], ["a", "+", "a"], 3), (4, 6))
        self.assertEqual(day_range([("a", 5, 5), ("a", 9, 9)], ["a", "+", "a"], 3), (4, 9))
        self.assertEqual(day_range([("a", 5, 6)], ["a"], 7), (7, None))

    def test_far(self):
        log = [("a", -FAR, FAR), ("b", 0, 0), ("b", FAR + 1, 2 * FAR)]
        self.assertEqual(day_range(log, ["a"], -FAR), (FAR, FAR))
        self.assertEqual(day_range(log, ["a", "b"], 5), (FAR, 2 * FAR))
        self.assertEqual(day_range(log, ["a", "+", "b"], 5), (2 * FAR, 2 * FAR))
        self.assertEqual(day_range(log, ["b", "a"], -2 * FAR), (-2 * FAR, FAR))
        self.assertEqual(day_range(log, ["b", "+", "b"], -5), (-4, 2 * FAR))

    def test_all_calendars_that_agree(self):
        source = random.Random(321)
        candidates = all_opened(7)
        for _ in range(120):
            log = some_log(source, ["a"], 7, 4)
            if find_clash(log) is not None:
                continue
            agreed = [opened for opened in candidates if agrees({"a": opened}, log)]
            rule = some_rule(source, "a+", 5)
            self.check(log, rule, source.randint(0, 3), [{"a": opened} for opened in agreed])

    def test_two_offices(self):
        source = random.Random(322)
        candidates = all_opened(4)
        for _ in range(60):
            log = some_log(source, ["a", "b"], 4, 4)
            if find_clash(log) is not None:
                continue
            agreed = [[opened for opened in candidates if agrees({office: opened}, log)] for office in "ab"]
            rule = some_rule(source, "ab+", 4)
            self.check(log, rule, source.randint(0, 2),
                       [{"a": first, "b": second} for first in agreed[0] for second in agreed[1]])

    def check(self, log, rule, day, opened):
        found = []
        for days in opened:
            reached = day
            for letter in rule:
                # Behind the long time no more is known of these sets of days, so it counts as any time.
                reached = reached + 1 if letter == "+" else next_in(days[letter] | {max(reached, BEHIND)}, reached)
            found.append(reached)
        greatest = max(found)
        self.assertEqual(day_range(log, rule, day), (min(found), None if greatest >= BEHIND else greatest))

    def test_calendars_that_made_the_log(self):
        source = random.Random(323)
        calendars = dict(zip("abc", [pair[0] for pair in far_pairs(324, 3)]))
        log = []
        for _ in range(200):
            office = source.choice("ab")
            day = source.randint(-3 * FAR, 3 * FAR)
            log.append((office, day, calendars[office].next_open(day)))
        self.assertIsNone(find_clash(log))
        for _ in range(60):
            office, day, _ = source.choice(log)
            rule = some_rule(source, "abc+")
            least, greatest = day_range(log, rule, day - 3)
            self.assertTrue(least <= moved(calendars, rule, day - 3))
            self.assertTrue(greatest is None or moved(calendars, rule, day - 3) <= greatest)
            state = known_state(log, office, day)
            self.assertEqual(state, "open" if calendars[office].is_open(day) else "closed")


class Errors(unittest.TestCase):
    def test_logs(self):
        wrong = [[value] for value in NO_ENTRIES] + [LOG + [value] for value in NO_ENTRIES]
        wrong += [[value] for value in ANY_VALUES] + [value for value in NO_LISTS]
        wrong += [tuple(LOG), {"ny": (5, 7)}, ("ny", 5, 7), ["ny", 5, 7], iter(LOG)]
        for number, value in enumerate(wrong):
            with self.subTest(number):
                self.assertRaises(InvalidLog, find_clash, value)
                self.assertRaises(InvalidLog, known_state, value, "ny", 5)
                self.assertRaises(InvalidLog, known_state, value, None, None)
                self.assertRaises(InvalidLog, day_range, value, ["ny"], 5)
                self.assertRaises(InvalidLog, day_range, value, None, None)

    def test_a_wrong_entry_behind_a_clash(self):
        for function in (known_state, day_range):
            self.assertRaises(InvalidLog, function, CLASH + [None], None, None)
        self.assertRaises(InvalidLog, find_clash, CLASH + [None])

    def test_clashes(self):
        for arguments in [("ny", 5), (None, None), ("", 5), ("ny", None)]:
            with self.assertRaises(LogClash) as caught:
                known_state(CLASH, *arguments)
            self.assertEqual((caught.exception.first, caught.exception.second), (0, 2))
        for arguments in [(["ny"], 5), (None, None), ([], None), ((), 5)]:
            with self.assertRaises(LogClash) as caught:
                day_range(CLASH, *arguments)
            self.assertEqual((caught.exception.first, caught.exception.second), (0, 2))

    def test_offices_and_rules(self):
        for number, value in enumerate(NOT_OFFICES):
            with self.subTest(number):
                self.assertRaises(InvalidOffice, known_state, LOG, value, 5)
                self.assertRaises(InvalidOffice, known_state, [], value, None)
        for number, value in enumerate(NOT_RULES):
            with self.subTest(number):
                self.assertRaises(InvalidRule, day_range, LOG, value, 5)
                self.assertRaises(InvalidRule, day_range, [], value, None)

    def test_days(self):
        for number, value in enumerate(NO_INTEGERS):
            with self.subTest(number):
                self.assertRaises(InvalidDay, known_state, LOG, "ny", value)
                self.assertRaises(InvalidDay, known_state, [], "ldn", value)
                self.assertRaises(InvalidDay, day_range, LOG, ["ny"], value)
                self.assertRaises(InvalidDay, day_range, [], [], value)

    def test_arguments_stay(self):
        log, rule = list(LOG), ["ny", "ny", "+", "ldn"]
        for _ in range(2):
            self.assertIsNone(find_clash(log))
            self.assertEqual(known_state(log, "ny", 5), "closed")
            self.assertEqual(day_range(log, rule, 5), (8, None))
        self.assertEqual((log, rule), (LOG, ["ny", "ny", "+", "ldn"]))

    def test_entries_are_not_calendars(self):
        self.assertRaises(InvalidLog, find_clash, [("ny", Calendar("o"), 5)])


if __name__ == "__main__":
    unittest.main()
