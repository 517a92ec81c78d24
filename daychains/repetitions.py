"""Repetitions of a rule: how far it comes, also when it is repeated very often."""

from daychains.courses import Course
from daychains.rules import offices_in, reduced
from daychains.steps import last_stop

# Each course keeps up to 840 numbers; calendars with very many stretches would need too many courses at once.
MOST_COURSES = 1000


class Repetition:
    """A rule that is repeated, by calendars that have all of its offices.

    Between two days at which a stretch of one of these calendars begins or ends, the rule follows one course.
    """

    def __init__(self, calendars, rule):
        self._calendars = calendars
        self._rule = reduced(rule)
        self._offices = offices_in(rule)
        self._courses = {}

    def after(self, day, most, goal):
        """Return the day that is reached from the day, and after how many repetitions.

        They are at most `most`, and none more once the goal (None: there is no goal) is reached or the rule rests.
        """
        times = 0
        while times < most and (goal is None or day < goal):
            day, done = self._along(day, most - times, goal)
            if done == 0:
                found = last_stop(self._calendars, self._rule, day)
                if found == day:
                    break
                day, done = found, 1
            times += done
        return day, times

    def round_from(self, day):
        """Return the least times, and their days, after which the moves of the rule come again in the end."""
        signs, end = self._signs_at(day)
        while end is not None:
            # Each time is at least one day, unless the rule rests.
            reached, _ = self.after(day, end - day, end)
            if reached < end:
                return 1, 0
            day = reached
            signs, end = self._signs_at(day)
        return self._course(signs).round_from(day)

    def _along(self, day, most, goal):
        """Follow the course of the day, before the goal; return the last day on it, and after how many repetitions."""
        signs, end = self._signs_at(day)
        # Where an office is closed, the rule has no course: it leaves these days at once.
        if "-" in signs:
            return day, 0
        return self._course(signs).along(day, most, earliest(end, goal))

    def _signs_at(self, day):
        """Return the signs of the offices on the day, and the first day with other signs, or None if there is none."""
        signs = []
        end = None
        for office in self._offices:
            present, until = self._calendars[office].signs_at(day)
            signs.append(present)
            end = earliest(end, until)
        return tuple(signs), end

    def _course(self, signs):
        """Return the course of the rule while its offices have these signs."""
        if signs not in self._courses:
            if len(self._courses) == MOST_COURSES:
                self._courses = {}
            self._courses[signs] = Course(self._rule, dict(zip(self._offices, signs)))
        return self._courses[signs]


def earliest(day, other):
    """Return the earlier one of two days of which each may be None, as a day that never comes."""
    if day is None:
        return other
    if other is None:
        return day
    return min(day, other)
