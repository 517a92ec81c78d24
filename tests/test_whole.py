"""What the document says of all functions together: arguments by name, that stay; new and equal results."""

import importlib
import inspect
import unittest

from daychains.bounds import count_below, index_below, longest_below, nth_below, shortest_above
from daychains.calendars import Calendar
from daychains.console import Console
from daychains.desks import Counter, Desk, Limited, LimitedCounter
from daychains.latest import latest_counterexample, latest_day, latest_never_later, latest_same, normal_rules
from daychains.logs import day_range, find_clash, known_state
from daychains.meetings import fewest_moves, needed_days, next_common, shows_needed
from daychains.moves import moved, repeated, repeats_to, round_of, stops
from daychains.notation import format_calendar, format_rule, parse_calendar, parse_rule
from daychains.order import counterexample, indices_in, never_later, same_days, shows_later
from daychains.rules import is_office, is_rule, joined, offices_in, reduced, working_days
from daychains.starts import latest_start, start_days
from model import FAR

A, B = Calendar("ooo----", closed=[(1, 2)]), Calendar("--oooo-", opened=[(20, 21)])
CALENDARS = {"b": B, "a": A}
RULE, OTHER = ["b", "b", "+", "a"], ["a", "+", "b", "+"]
RULES, OTHERS = [RULE, ["a"]], [OTHER, ["b", "b"]]
LOG = [("a", 3, 7), ("b", 0, 2), ("a", 8, 8)]

# Each function of the interface, with arguments in the order of its parameters.
CALLS = [
    (is_office, ["ny"]), (is_rule, [RULE]), (reduced, [RULE]), (offices_in, [RULE]), (working_days, ["a", 3]),
    (moved, [CALENDARS, RULE, 3]), (stops, [CALENDARS, RULE, 3]), (repeated, [CALENDARS, RULE, 3, 9]),
    (repeats_to, [CALENDARS, RULE, 3, 50]), (round_of, [CALENDARS, RULE, 3]), (never_later, [RULE, OTHER]),
    (same_days, [RULE, OTHER]), (indices_in, [["a", "a", "b"], OTHER]), (counterexample, [RULE, OTHER]),
    (shows_later, [RULE, OTHER, (CALENDARS, 3)]), (normal_rules, [RULES]), (latest_never_later, [RULES, OTHERS]),
    (latest_same, [RULES, OTHERS]), (latest_day, [CALENDARS, RULES, 3]), (latest_counterexample, [RULES, OTHERS]),
    (longest_below, [RULE, OTHER]), (shortest_above, [RULE, OTHER]), (count_below, [RULE, 2]),
    (nth_below, [RULE, 2, 1]), (index_below, [RULE, ["b", "a"]]), (next_common, [CALENDARS, 3]),
    (fewest_moves, [CALENDARS, 3]), (needed_days, [CALENDARS, 3]), (shows_needed, [CALENDARS, 3, [4, 8]]),
    (latest_start, [CALENDARS, RULE, 3]), (start_days, [CALENDARS, RULE, 7]), (find_clash, [LOG]),
    (known_state, [LOG, "a", 5]), (day_range, [LOG, RULE, 1]), (format_rule, [RULE]), (parse_rule, ["b + a"]),
    (format_calendar, ["o-"]), (parse_calendar, ["o- closed 7 8"]), (Calendar.is_pattern, ["o-"]),
    (Calendar.read, ["o- closed 7 8"]), (A.is_open, [3]), (A.next_open, [3]), (A.last_open, [3]), (A.nth_open, [3, 9]),
    (A.count_open, [3, 99]), (A.with_closed, [3, 9]), (A.with_opened, [3, 9]), (Calendar, ["o-"]), (Desk, [3]),
    (Counter, [3]), (Limited, [3]), (LimitedCounter, [3]),
]
WITH_STARS = [
    (joined, [RULE, OTHER]), (next_common, [CALENDARS, 3, "b"]), (fewest_moves, [CALENDARS, 3, "b", "a", "b"]),
    (needed_days, [CALENDARS, 3, "b", "a"]), (shows_needed, [CALENDARS, 3, [4], "a"]),
]


def copied(value):
    """Return the same value with new lists, dicts and tuples at every depth."""
    if isinstance(value, dict):
        return {key: copied(entry) for key, entry in value.items()}
    return type(value)(copied(entry) for entry in value) if isinstance(value, (list, tuple)) else value


def spoil(value):
    """Change every list and dict within the value."""
    for entry in value.values() if isinstance(value, dict) else value if isinstance(value, (list, tuple)) else []:
        spoil(entry)
    if isinstance(value, list):
        value.append("spoiled")
    if isinstance(value, dict):
        value["spoiled"] = Calendar("o")


def call(function, arguments):
    found = function(*arguments)
    return list(found) if inspect.isgenerator(found) else found


class AllFunctions(unittest.TestCase):
    def test_the_calls_name_all_functions(self):
        named = {function.__name__ for function, _ in CALLS + WITH_STARS}
        for name in ("rules", "moves", "order", "latest", "bounds", "meetings", "starts", "logs", "notation"):
            module = importlib.import_module(f"daychains.{name}")
            own = {entry for entry, worth in vars(module).items() if inspect.isfunction(worth)
                   and worth.__module__ == module.__name__ and not entry.startswith("_")}
            self.assertLessEqual(own - {"is_letter", "check_rule"}, named)

    def test_by_name(self):
        for function, arguments in CALLS:
            names = [name for name, entry in inspect.signature(function).parameters.items()
                     if entry.kind is entry.POSITIONAL_OR_KEYWORD]
            self.assertEqual(len(names), len(arguments), function)
            named = dict(reversed(list(zip(names, arguments))))
            found = function(**named)
            self.assertEqual(list(found) if inspect.isgenerator(found) else found, call(function, arguments), function)

    def test_arguments_stay(self):
        for function, arguments in CALLS + WITH_STARS:
            kept = copied(arguments)
            call(function, arguments)
            self.assertEqual(arguments, kept, function)
            self.assertEqual(list(CALENDARS), ["b", "a"])

    def test_results_are_new_and_equal(self):
        for function, arguments in CALLS + WITH_STARS:
            kept = copied(arguments)
            first = call(function, arguments)
            expected = copied(first)
            spoil(first)
            self.assertEqual(call(function, arguments), expected, function)
            self.assertEqual(arguments, kept, function)
            self.assertEqual(call(function, copied(arguments)), expected, function)

    def test_equal_calendars(self):
        # The same open days by another pattern and other stretches, and the offices in another order.
        same = {"a": Calendar("ooo----", closed=[(1, 1), (2, 2), (3, 6)]),
                "b": Calendar("--oooo-", opened=[(20, 21)]).with_closed(6, 7)}
        self.assertEqual(same, CALENDARS)
        for function, arguments in CALLS + WITH_STARS:
            if arguments[0] is CALENDARS:
                self.assertEqual(call(function, [same] + arguments[1:]), call(function, arguments), function)


class Guarantees(unittest.TestCase):
    """The parts of the program tell the same of one and the same calendars and rules."""

    def test_far(self):
        # A rule comes back from where it leads, also very far away.
        day = repeated(CALENDARS, RULE, 3, 10 ** 30)
        self.assertGreater(day, FAR)
        self.assertEqual(repeats_to(CALENDARS, RULE, 3, day), 10 ** 30)
        first, last = start_days(CALENDARS, RULE, moved(CALENDARS, RULE, day))
        self.assertTrue(first <= day <= last == latest_start(CALENDARS, RULE, moved(CALENDARS, RULE, day)))

    def test_meetings_by_moves(self):
        for day in range(-20, 30):
            rule = fewest_moves(CALENDARS, day)
            self.assertEqual(moved(CALENDARS, rule, day), next_common(CALENDARS, day))
            self.assertTrue(shows_needed(CALENDARS, day, needed_days(CALENDARS, day)))

    def test_bounds_by_days(self):
        below, above = longest_below(RULE, OTHER), shortest_above(RULE, OTHER)
        self.assertEqual(nth_below(OTHER, len(below), index_below(OTHER, below)), below)
        for day in range(-20, 30):
            days = [moved(CALENDARS, rule, day) for rule in (RULE, OTHER)]
            self.assertLessEqual(moved(CALENDARS, below, day), min(days))
            self.assertGreaterEqual(moved(CALENDARS, above, day), latest_day(CALENDARS, [RULE, OTHER], day))
            self.assertEqual(latest_day(CALENDARS, [RULE, OTHER], day), max(days))

    def test_a_log_of_a_desk(self):
        desk = Counter(0, **CALENDARS)
        log = []
        for letter in ["b", "+", "a", "+", "b", "a"]:
            before = desk.day
            desk.move(letter)
            if letter != "+":
                log.append((letter, before, desk.day))
        self.assertIsNone(find_clash(log))
        self.assertEqual(day_range(log, ["b", "+", "a", "+", "b", "a"], 0), (desk.day, desk.day))
        self.assertEqual(desk.moved_days, desk.day)

    def test_the_console_of_a_desk(self):
        desk, console = Desk(3, a=A), Console()
        console.execute("office a " + format_calendar("ooo----", closed=[(1, 2)]))
        console.execute("day 3")
        for rule in (["a"], ["+", "a"], ["+"], ["a", "+", "a"]):
            self.assertEqual(console.execute("move " + format_rule(rule)), str(desk.move(*rule)))


if __name__ == "__main__":
    unittest.main()
