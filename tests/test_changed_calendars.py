"""Calendar: with_closed, with_opened and equality."""

import random
import unittest

from daychains.calendars import Calendar
from daychains.errors import InvalidDay, InvalidStretches
from model import FAR, Model, far_pairs, small_pairs, some_pattern
from values import ANY_VALUES, NO_INTEGERS, EqualToAll


def open_between(calendar, low, high):
    return [day for day in range(low, high) if calendar.is_open(day)]


class Changed(unittest.TestCase):
    def test_with_closed(self):
        calendar = Calendar("o-", opened=[(3, 5)])
        changed = calendar.with_closed(2, 4)
        self.assertEqual(open_between(changed, 0, 9), [0, 5, 6, 8])
        self.assertEqual(open_between(calendar, 0, 9), [0, 2, 3, 4, 5, 6, 8])
        self.assertEqual(open_between(calendar.with_closed(first=4, last=4), 0, 9), [0, 2, 3, 5, 6, 8])

    def test_with_opened_whatever_they_were(self):
        calendar = Calendar("o-", closed=[(2, 6), (7, 10)], opened=[(9, 13)])
        changed = calendar.with_opened(4, 8)
        self.assertEqual(open_between(changed, 0, 16), [0, 4, 5, 6, 7, 8, 11, 12, 13, 14])
        self.assertEqual(open_between(calendar, 0, 16), [0, 11, 12, 13, 14])
        self.assertEqual(open_between(calendar.with_opened(last=3, first=3), 0, 16), [0, 3, 11, 12, 13, 14])

    def test_closed_and_opened_again(self):
        calendar = Calendar("ooo-")
        self.assertEqual(calendar.with_closed(-5, 9).with_opened(-5, 9), Calendar("ooo-", opened=[(-5, 9)]))
        self.assertEqual(calendar.with_opened(-5, 9).with_closed(-5, 9), Calendar("ooo-", closed=[(-5, 9)]))

    def test_opened_days_do_not_come_back(self):
        calendar = Calendar("-o", opened=[(0, 9)]).with_closed(0, 9).with_opened(2, 2)
        self.assertEqual(open_between(calendar, -1, 12), [-1, 2, 11])

    def test_pattern_stays(self):
        calendar = Calendar("o-o-")
        self.assertEqual(calendar.with_closed(0, 1).pattern, "o-o-")
        self.assertEqual(calendar.with_opened(0, 1).pattern, "o-o-")

    def test_result_is_new(self):
        calendar = Calendar("o-", closed=[(1, 1)], opened=[(2, 2)])
        self.assertIsNot(calendar.with_closed(1, 1), calendar)
        self.assertIsNot(calendar.with_opened(2, 2), calendar)
        self.assertEqual(calendar.with_closed(1, 1), calendar)
        self.assertEqual(calendar.with_opened(2, 2), calendar)

    def test_far(self):
        calendar = Calendar("o-").with_closed(-FAR, FAR).with_opened(5, 10 * FAR).with_closed(7, 8)
        self.assertEqual([calendar.next_open(-FAR), calendar.next_open(7), calendar.next_open(10 * FAR + 1)],
                         [5, 9, 10 * FAR + 2])
        self.assertEqual(calendar.count_open(-FAR, 10 * FAR), 10 * FAR - 6)

    def test_wrong_days(self):
        calendar = Calendar("o-")
        for method in (calendar.with_closed, calendar.with_opened):
            for number, value in enumerate(NO_INTEGERS):
                for first, last in [(value, 3), (3, value), (value, value)]:
                    with self.subTest(number), self.assertRaises(InvalidDay):
                        method(first, last)

    def test_last_before_first(self):
        calendar = Calendar("o-")
        for method in (calendar.with_closed, calendar.with_opened):
            for first, last in [(1, 0), (FAR, -FAR), (0, -1)]:
                self.assertRaises(InvalidStretches, method, first, last)
        self.assertEqual(calendar, Calendar("o-"))

    def test_many_changes(self):
        source = random.Random(21)
        for calendar, model in small_pairs(22, 40):
            days = {day: model.is_open(day) for day in range(-60, 70)}
            for _ in range(12):
                first = source.randint(-50, 50)
                last = first + source.choice([0, 1, 5, 30])
                worth = source.choice([True, False])
                calendar = calendar.with_opened(first, last) if worth else calendar.with_closed(first, last)
                days.update({day: worth for day in days if first <= day <= last})
            self.assertEqual({day: calendar.is_open(day) for day in days}, days)

    def test_many_changes_far(self):
        source = random.Random(23)
        for calendar, model in far_pairs(24, 8):
            before = calendar
            first = source.randint(-FAR, FAR)
            last = first + source.randint(0, FAR)
            for changed, inside in [(calendar.with_closed(first, last), 0),
                                    (calendar.with_opened(first, last), last - first + 1)]:
                self.assertEqual(changed.count_open(first, last), inside)
                self.assertEqual(changed.count_open(-9 * FAR, first - 1), model.count(-9 * FAR, first - 1))
                self.assertEqual(changed.count_open(last + 1, 9 * FAR), model.count(last + 1, 9 * FAR))
            self.assertEqual(calendar, before)


class Equal(unittest.TestCase):
    def same(self, one, two):
        self.assertIs(one == two, True)
        self.assertIs(two == one, True)
        self.assertIs(one != two, False)

    def different(self, one, two):
        self.assertIs(one == two, False)
        self.assertIs(two == one, False)
        self.assertIs(one != two, True)

    def test_repeated_patterns(self):
        self.same(Calendar("o"), Calendar("oooooooo"))
        self.same(Calendar("oo"), Calendar("ooooooo"))
        self.same(Calendar("o-"), Calendar("o-o-o-"))
        self.same(Calendar("o-o-"), Calendar("o-o-o-"))
        self.different(Calendar("o-"), Calendar("-o"))
        self.different(Calendar("o-o"), Calendar("o-o-"))
        self.different(Calendar("oo-"), Calendar("oo-o-"))
        self.different(Calendar("o------"), Calendar("o-------"))

    def test_stretches_cut_in_two(self):
        self.same(Calendar("oo-", closed=[(0, 9)]), Calendar("oo-", closed=[(4, 9), (0, 3)]))
        self.same(Calendar("oo-", closed=[(0, 9)]), Calendar("oo-", closed=[(0, 6), (4, 9), (5, 5)]))
        self.same(Calendar("oo-", opened=[(0, 9)]), Calendar("oo-", opened=[(0, 4), (5, 9)]))

    def test_stretches_cut_around_days_that_are_so_anyway(self):
        self.same(Calendar("ooooo--", closed=[(0, 11)]), Calendar("ooooo--", closed=[(0, 4), (7, 11)]))
        self.same(Calendar("oo-", opened=[(2, 5)]), Calendar("oo-", opened=[(2, 2), (5, 5)]))
        self.different(Calendar("ooooo--", closed=[(0, 11)]), Calendar("ooooo--", closed=[(0, 3), (7, 11)]))

    def test_stretches_put_in_twice(self):
        self.same(Calendar("o-", closed=[(0, 4)] * 3), Calendar("o-", closed=[(0, 4)]))
        self.same(Calendar("o-", opened=((1, 1), (1, 1))), Calendar("o-", opened=[(1, 1)]))

    def test_stretches_over_days_that_are_so_anyway(self):
        self.same(Calendar("ooooo--", closed=[(5, 6)]), Calendar("ooooo--"))
        self.same(Calendar("ooooo--", opened=[(-7, -3)]), Calendar("ooooo--"))
        self.same(Calendar("o", opened=[(-FAR, FAR)]), Calendar("o"))
        self.same(Calendar("ooooo--", closed=[(0, 6)]), Calendar("ooooo--", closed=[(-2, 4)]))

    def test_closed_over_opened(self):
        self.same(Calendar("o-", closed=[(0, 9)], opened=[(3, 5)]), Calendar("o-", closed=[(0, 9)]))
        self.same(Calendar("-o", closed=[(0, 9)], opened=[(0, 10)]), Calendar("-o", closed=[(0, 9)], opened=[(10, 10)]))
        self.different(Calendar("o-", closed=[(0, 9)]), Calendar("o-", opened=[(0, 9)]))

    def test_as_many_open_days_elsewhere(self):
        self.different(Calendar("o-", closed=[(0, 0)]), Calendar("o-", closed=[(2, 2)]))
        self.different(Calendar("o-", opened=[(1, 1)]), Calendar("o-", opened=[(3, 3)]))
        self.different(Calendar("o-", closed=[(0, 0)], opened=[(1, 1)]), Calendar("o-"))
        self.different(Calendar("o-", closed=[(2, 2)], opened=[(1, 1)]), Calendar("o-"))

    def test_stretches_that_spell_a_pattern_for_a_while(self):
        days = range(0, 200, 2)
        like = Calendar("o", closed=[(day + 1, day + 1) for day in days])
        self.different(like, Calendar("o-"))
        self.different(like, Calendar("o-", opened=[(-3 * FAR, -1), (200, 3 * FAR)]))
        self.same(like, Calendar("oo", opened=[(0, 199)], closed=[(day + 1, day + 1) for day in days]))

    def test_far(self):
        self.same(Calendar("o-", closed=[(-FAR, FAR)]), Calendar("o-o-", closed=[(-FAR - 1, 7), (8, FAR + 1)]))
        self.different(Calendar("o-", closed=[(-FAR, FAR)]), Calendar("o-", closed=[(-FAR - 2, FAR)]))
        self.different(Calendar("o-", closed=[(-FAR, FAR)]), Calendar("o-", closed=[(-FAR, FAR + 2)]))
        self.different(Calendar("o"), Calendar("o", closed=[(FAR, FAR)]))

    def test_other_values(self):
        calendar = Calendar("o")
        for number, value in enumerate(ANY_VALUES):
            if isinstance(value, Calendar):
                continue
            with self.subTest(number):
                self.assertIs(calendar == value, False)
                self.assertIs(calendar != value, True)
                if not isinstance(value, EqualToAll):
                    self.assertIs(value == calendar, False)

    def test_itself(self):
        for calendar, model in small_pairs(25, 20):
            self.same(calendar, calendar)
            self.same(calendar, Calendar(model.pattern * (8 // len(model.pattern)),
                                         closed=model.closed, opened=model.opened))

    def test_rewritten(self):
        """Each stretch is cut, doubled and reordered, and days that are so anyway are added."""
        source = random.Random(26)
        for calendar, model in small_pairs(27, 80):
            closed, opened = [], []
            for old, new in [(model.closed, closed), (model.opened, opened)]:
                for first, last in old:
                    middle = source.randint(first, last)
                    new += [(first, middle), (middle, last), (first, last)][source.randint(0, 1):]
                    new += [(first, last)]
            closed += [(day, day) for day in range(-60, 60) if not model.is_open(day) and source.random() < 0.3]
            opened += [(day, day) for day in range(-60, 60) if model.is_open(day) and source.random() < 0.3]
            source.shuffle(closed)
            source.shuffle(opened)
            self.same(calendar, Calendar(model.pattern, closed=closed, opened=opened))

    def test_against_the_definition(self):
        """Calendars of few days and small patterns, so that many are equal."""
        source = random.Random(28)
        pairs = []
        for _ in range(90):
            ends = [sorted([source.randint(0, 4), source.randint(0, 4)]) for _ in range(2)]
            pattern = source.choice(["o", "oo", "o-", "o-o-", some_pattern(source, 3)])
            closed = [tuple(ends[0])][:source.randint(0, 1)]
            opened = [tuple(ends[1])][:source.randint(0, 1)]
            pairs.append((Calendar(pattern, closed=closed, opened=opened), Model(pattern, closed, opened)))
        equal = 0
        for calendar, model in pairs:
            for other, like in pairs:
                expected = all(model.is_open(day) == like.is_open(day) for day in range(-30, 35))
                self.assertIs(calendar == other, expected)
                equal += expected
        self.assertGreater(equal, 200)


if __name__ == "__main__":
    unittest.main()
