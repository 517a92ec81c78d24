"""Calendars straight from their definition, to compare the program with."""

import itertools
import random

from daychains.calendars import Calendar

FAR = 10 ** 30


class Model:
    """Tells by the definition whether a day is open, and counts between the ends of stretches."""

    def __init__(self, pattern, closed=(), opened=()):
        self.pattern = pattern
        self.closed = list(closed)
        self.opened = list(opened)

    def is_open(self, day):
        if any(first <= day <= last for first, last in self.closed):
            return False
        if any(first <= day <= last for first, last in self.opened):
            return True
        return self.pattern[day % len(self.pattern)] == "o"

    def state(self, day):
        if any(first <= day <= last for first, last in self.closed):
            return "closed"
        if any(first <= day <= last for first, last in self.opened):
            return "opened"
        return "pattern"

    def count(self, first, last):
        """Count the open days: between two ends of stretches the state is one and the same."""
        cuts = {first, last + 1}
        for start, end in self.closed + self.opened:
            cuts |= {day for day in (start, end + 1) if first < day <= last}
        days = sorted(cuts)
        return sum(self.count_alike(low, high) for low, high in zip(days, days[1:]))

    def count_alike(self, low, high):
        """Count the open days from low to high - 1, which all have the state of low."""
        state = self.state(low)
        if state != "pattern":
            return high - low if state == "opened" else 0
        size = len(self.pattern)
        rounds = (high - low) // size
        rest = range(low + rounds * size, high)
        return rounds * self.pattern.count("o") + sum(self.pattern[day % size] == "o" for day in rest)


def some_pattern(source, most=8):
    signs = [source.choice("o-") for _ in range(source.randint(1, most))]
    signs[source.randrange(len(signs))] = "o"
    return "".join(signs)


def some_stretches(source, number, low, high, longest):
    """Return stretches with first days from low to high and at most so many days, some of them twice."""
    found = []
    for _ in range(number):
        first = source.randint(low, high)
        found.append((first, first + source.randint(0, longest - 1)))
    return found + found[:number // 4]


def both(pattern, closed=(), opened=()):
    """Return the calendar and its model."""
    return Calendar(pattern, closed=closed, opened=opened), Model(pattern, closed, opened)


def small_pairs(seed, number):
    """Yield calendars with their models, whose stretches lie about the days from -30 to 40."""
    source = random.Random(seed)
    for _ in range(number):
        closed = some_stretches(source, source.randint(0, 6), -30, 30, source.choice([1, 3, 12]))
        opened = some_stretches(source, source.randint(0, 6), -30, 30, source.choice([1, 3, 12]))
        yield both(some_pattern(source), closed, opened)


def small_offices(seed, number, letters="abc"):
    """Yield dicts of calendars and of their models."""
    pairs = list(small_pairs(seed, number * len(letters)))
    for at in range(number):
        chosen = dict(zip(letters, pairs[at * len(letters):]))
        yield {key: pair[0] for key, pair in chosen.items()}, {key: pair[1] for key, pair in chosen.items()}


def far_pairs(seed, number):
    """Yield calendars with their models, whose up to 200 and 200 stretches are long and far away."""
    source = random.Random(seed)
    for _ in range(number):
        longest = source.choice([5, FAR // 1000, FAR])
        closed = some_stretches(source, source.randint(0, 160), -3 * FAR, 3 * FAR, max(1, longest // 50))
        opened = some_stretches(source, source.randint(0, 160), -3 * FAR, 3 * FAR, longest)
        yield both(some_pattern(source), closed, opened)


def days_about(source, model, number):
    """Return days at the ends of stretches, beside them, and elsewhere, near and far."""
    days = [source.randint(-4 * FAR, 4 * FAR) for _ in range(number)]
    ends = [day for stretch in model.closed + model.opened for day in stretch] or [0]
    days += [source.choice(ends) + source.randint(-9, 9) for _ in range(number)]
    return days


def walked(calendars, rule, day):
    """Move the day by the rule day by day; the calendars may be models too."""
    for letter in rule:
        if letter == "+":
            day += 1
            continue
        while not calendars[letter].is_open(day):
            day += 1
    return day


def some_rule(source, letters="ab+", most=12):
    return [source.choice(letters) for _ in range(source.randint(0, most))]


def all_rules(letters, most):
    """Return all rules of these letters with at most so many letters."""
    return [list(rule) for size in range(most + 1) for rule in itertools.product(letters, repeat=size)]


def spells(indices, rule, other):
    """Return whether the indices spell the rule, straight from the definition."""
    ascending = all(low < high for low, high in zip(indices, indices[1:]))
    return ascending and [other[at] for at in indices] == rule


def spellings(rule, other):
    """Return all lists of indices of the other rule that spell the rule."""
    found = map(list, itertools.combinations(range(len(other)), len(rule)))
    return [indices for indices in found if spells(indices, rule, other)]
