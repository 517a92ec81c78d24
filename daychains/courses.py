"""Courses: how a rule moves the days on which each of its offices is open by signs that stay the same."""

from math import lcm


class Course:
    """A rule between two days at which the signs of its offices change.

    It moves two days that are a period apart by equally many days. So what it does is known once it has
    come to the same place in the period twice, however often it is repeated.
    """

    def __init__(self, rule, signs):
        """Set up the course of the rule; `signs` is a dict from its offices to the signs of each."""
        waits = {office: waits_of(signs[office]) for office in signs}
        tables = [[1] if letter == "+" else waits[letter] for letter in rule]
        # An office that is always open moves nothing.
        self._tables = [table for table in tables if any(table)]
        self.period = 1
        for table in self._tables:
            self.period = lcm(self.period, len(table))
        self._gains = {}

    def move(self, day):
        """Return the day to which the rule moves the day."""
        place = day % self.period
        if place not in self._gains:
            self._gains[place] = self._gain(place)
        return day + self._gains[place]

    def along(self, day, most, end):
        """Return the last day before the end (None: there is no end) that the rule comes to, and after how many times.

        They are at most `most`, and none more once the rule rests.
        """
        times = 0
        seen = {}
        while times < most:
            found = self.move(day)
            if found == day or end is not None and found >= end:
                break
            day = found
            times += 1
            place = day % self.period
            if place in seen:
                earlier, before = seen[place]
                rounds = (most - times) // (times - before)
                if end is not None:
                    rounds = min(rounds, (end - 1 - day) // (day - earlier))
                day, times = day + rounds * (day - earlier), times + rounds * (times - before)
            seen[place] = (day, times)
        return day, times

    def round_from(self, day):
        """Return the least times, and their days, after which the moves of a rule from the day on come again."""
        gains = []
        seen = {}
        while day % self.period not in seen:
            seen[day % self.period] = len(gains)
            found = self.move(day)
            gains.append(found - day)
            day = found
        again = gains[seen[day % self.period]:]
        # Moves may come again sooner than places, as a pattern may repeat within itself.
        times = least_turn(again)
        return times, sum(again[:times])

    def _gain(self, place):
        """Return by how many days the rule moves a day at this place in the period."""
        day = place
        for table in self._tables:
            day += table[day % len(table)]
        return day - place


def waits_of(signs):
    """Return for each sign how many days its day is away from the first open day, from this day on."""
    return [(signs[at:] + signs[:at]).index("o") for at in range(len(signs))]


def least_turn(numbers):
    """Return the least positive number of places by which this ring of numbers can be turned and stays the same."""
    for places in range(1, len(numbers)):
        if numbers[places:] + numbers[:places] == numbers:
            return places
    return len(numbers)
