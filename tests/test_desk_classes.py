"""The module desks: what Counter, Limited and LimitedCounter do beyond a Desk."""

import random
import unittest

from daychains.calendars import Calendar
from daychains.desks import Counter, Desk, Limited, LimitedCounter
from daychains.errors import (InvalidCalendars, InvalidDay, InvalidNumber, InvalidRule, NothingToUndo, TooFar,
                              UnknownOffice)
from daychains.moves import moved
from model import FAR, some_pattern
from values import NO_INTEGERS

NY = Calendar("ooooo--")
COUNTERS = [Counter, LimitedCounter]
LIMITED = [Limited, LimitedCounter]


class MovedDays(unittest.TestCase):
    def test_moves(self):
        for kind in COUNTERS:
            counter = kind(4, ny=NY)
            self.assertEqual(counter.moved_days, 0)
            counter.move("ny", "+", "ny")
            self.assertEqual(counter.moved_days, 3)
            counter.move("ny")
            self.assertEqual(counter.moved_days, 3)
            counter.move("+", "+")
            self.assertEqual((counter.moved_days, counter.told()[2]), (5, "moved 5"))

    def test_other_operations_do_not_count(self):
        for kind in COUNTERS:
            counter = kind(4, ny=NY)
            counter.move("+")
            counter.go_to(FAR)
            counter.go_to(-7)
            counter.close_office("ny", 0, 99)
            counter.trial(["+"], ["+"])
            counter.move()
            self.assertEqual(counter.moved_days, 1)
            counter.move("+", "+")
            self.assertEqual(counter.moved_days, 3)

    def test_reverted_moves_do_not_count(self):
        for kind in COUNTERS:
            counter = kind(4, ny=NY)
            counter.move("+", "ny")
            counter.go_to(5)
            counter.move("ny")
            found = []
            for _ in range(3):
                found.append(counter.moved_days)
                counter.undo()
            self.assertEqual(found + [counter.moved_days], [5, 3, 3, 0])
            counter.move("+")
            self.assertEqual(counter.moved_days, 1)

    def test_far(self):
        counter = Counter(-FAR, a=Calendar("o", closed=[(-FAR, FAR)]))
        counter.move("a")
        self.assertEqual((counter.moved_days, counter.told()[2]), (2 * FAR + 1, f"moved {2 * FAR + 1}"))

    def test_is_a_property_of_counters_only(self):
        for kind in COUNTERS:
            self.assertIsInstance(vars(kind)["moved_days"], property)
        for kind in (Desk, Limited):
            self.assertFalse(hasattr(kind(4), "moved_days"))


class TooFarAway(unittest.TestCase):
    def test_the_limit(self):
        for kind in LIMITED:
            for limit in (0, 1, 3, 10, 200):
                desk = kind(4, limit=limit)
                self.assertEqual(desk.move(*["+"] * limit), 4 + limit)
                self.assertRaises(TooFar, desk.move, *["+"] * (limit + 1))
                self.assertEqual((desk.day, len(desk)), (4 + limit, 1 if limit else 0))

    def test_the_default(self):
        for kind in LIMITED:
            desk = kind(4)
            self.assertRaises(TooFar, desk.move, *["+"] * 11)
            self.assertEqual(desk.move(*["+"] * 10), 14)

    def test_far(self):
        for kind in LIMITED:
            calendar = Calendar("o", closed=[(0, FAR - 1)])
            desk = kind(0, limit=FAR, a=calendar)
            self.assertEqual(desk.move("a"), FAR)
            desk.go_to(-1)
            self.assertRaises(TooFar, desk.move, "+", "a")
            self.assertRaises(TooFar, kind(0, limit=FAR - 1, a=calendar).move, "a")

    def test_moves_alone(self):
        for kind in LIMITED:
            desk = kind(4, limit=0, ny=NY)
            desk.go_to(FAR)
            desk.go_to(5)
            self.assertRaises(TooFar, desk.move, "ny")
            desk.open_office("ny", 5, 5)
            self.assertEqual([desk.move("ny"), desk.move()], [5, 5])
            # Each move alone, not all of them together.
            desk = kind(4, limit=1)
            self.assertEqual([desk.move("+") for _ in range(5)], [5, 6, 7, 8, 9])

    def test_nothing_changes(self):
        for kind in LIMITED:
            desk = kind(4, limit=2, ny=NY)
            self.assertRaises(TooFar, desk.move, "+", "ny")
            self.assertEqual((desk.day, len(desk), list(desk.days())), (4, 0, [4]))
            self.assertRaises(NothingToUndo, desk.undo)
            self.assertEqual(desk, Desk(4, ny=NY))

    def test_the_other_errors_are_due_before(self):
        for kind in LIMITED:
            desk = kind(4, limit=0, ny=NY)
            self.assertRaises(InvalidRule, desk.move, "+", None)
            self.assertRaises(UnknownOffice, desk.move, "+", "+", "a")
            self.assertRaises(InvalidRule, desk.trial, ["+", "a", 1])
            self.assertRaises(UnknownOffice, desk.trial, ["+", "a"])

    def test_trial(self):
        for kind in LIMITED:
            desk = kind(4, limit=3, ny=NY)
            desk.move("+")
            self.assertEqual(desk.trial(["ny"], ["+", "+", "+"], [], ["+"]), [7, 10, 10, 11])
            self.assertRaises(TooFar, desk.trial, ["ny"], ["+"] * 4)
            self.assertRaises(TooFar, desk.trial, ["+"] * 4, None)
            self.assertRaises(TooFar, desk.trial, ["+"] * 4, ["a"])
            self.assertRaises(InvalidRule, desk.trial, ["+"], None, ["+"] * 4)
            self.assertRaises(UnknownOffice, desk.trial, ["+"], ["a"], ["+"] * 4)
            self.assertEqual((desk.day, len(desk), list(desk.days())), (5, 1, [4, 5]))

    def test_desks_without_a_limit(self):
        for kind in (Desk, Counter):
            self.assertEqual(kind(4).move(*["+"] * 200), 204)


class Limits(unittest.TestCase):
    def test_limits(self):
        for kind in LIMITED:
            for limit in (0, 1, FAR):
                self.assertEqual(kind(4, limit=limit).told()[-1], f"limit {limit}")
                self.assertEqual(kind(4, ny=NY, limit=limit).calendars, {"ny": NY})
            self.assertRaises(TypeError, kind, 4, 7)

    def test_wrong_limits(self):
        for kind in LIMITED:
            for number, value in enumerate(NO_INTEGERS + [-1, FAR + 1, -FAR, 10 ** 31]):
                with self.subTest(number):
                    self.assertRaises(InvalidNumber, kind, 4, limit=value)
                    self.assertRaises(InvalidNumber, kind, 4, limit=value, ny=NY)

    def test_the_first_error_is_due(self):
        for kind in LIMITED:
            self.assertRaises(InvalidDay, kind, None, limit=None, ny=None)
            self.assertRaises(InvalidDay, kind, True, limit=-1)
            self.assertRaises(InvalidNumber, kind, 4, limit=None, ny=None)
            self.assertRaises(InvalidNumber, kind, 4, limit=True, Ny=NY)
            self.assertRaises(InvalidCalendars, kind, 4, limit=3, ny=None)
            self.assertRaises(InvalidCalendars, kind, 4, limit=3, Ny=NY)


class BothTogether(unittest.TestCase):
    def test_told(self):
        counter = LimitedCounter(5, limit=3, ny=NY)
        self.assertEqual([counter.move("ny"), counter.told()], [7, ["day 7", "offices 1", "moved 2", "limit 3"]])
        counter.undo()
        self.assertEqual(counter.told(), ["day 5", "offices 1", "moved 0", "limit 3"])
        self.assertRaises(TooFar, counter.move, *["+"] * 4)
        self.assertEqual(counter.moved_days, 0)

    def test_against_lists(self):
        source = random.Random(611)
        for kind in (Desk, Counter, Limited, LimitedCounter):
            for _ in range(25):
                self.compare(source, kind)

    def compare(self, source, kind):
        """Do operations on a desk, and the same ones on a list of days, calendars and moved days."""
        limit = source.choice([0, 2, 5, 30])
        calendars = {office: Calendar(some_pattern(source)) for office in "ab"}
        limited = kind in LIMITED
        desk = kind(0, limit=limit, **calendars) if limited else kind(0, **calendars)
        states = [(0, calendars, 0)]
        for _ in range(60):
            day, calendars, counted = states[-1]
            what = source.choice(["go", "move", "move", "close", "open", "undo", "trial"])
            rule = [source.choice("ab+") for _ in range(source.randint(0, 4))]
            office, first = source.choice("ab"), source.randint(-5, 40)
            last = first + source.randint(0, 9)
            if what == "go":
                desk.go_to(first)
                states.append((first, calendars, counted))
            elif what == "move" and limited and moved(calendars, rule, day) - day > limit:
                self.assertRaises(TooFar, desk.move, *rule)
            elif what == "move":
                found = moved(calendars, rule, day)
                self.assertEqual(desk.move(*rule), found)
                if rule:
                    states.append((found, calendars, counted + found - day))
            elif what == "close":
                desk.close_office(office, first, last)
                states.append((day, {**calendars, office: calendars[office].with_closed(first, last)}, counted))
            elif what == "open":
                desk.open_office(office, first, last)
                states.append((day, {**calendars, office: calendars[office].with_opened(first, last)}, counted))
            elif what == "undo" and len(states) > 1:
                desk.undo()
                states.pop()
            elif what == "undo":
                self.assertRaises(NothingToUndo, desk.undo)
            elif not limited or moved(calendars, rule, day) - day <= limit:
                self.assertEqual(desk.trial(rule), [moved(calendars, rule, day)])
            self.assertEqual((desk.day, desk.calendars), states[-1][:2])
            self.assertEqual((list(desk.days()), len(desk)), ([state[0] for state in states], len(states) - 1))
            if kind in COUNTERS:
                self.assertEqual(desk.moved_days, states[-1][2])


if __name__ == "__main__":
    unittest.main()
