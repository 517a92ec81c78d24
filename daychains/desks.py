"""Desks: a present day and calendars, with operations that can be reverted."""

from daychains.checks import check_calendars, check_office, check_offices
from daychains.errors import InvalidNumber, NothingToUndo, TooFar
from daychains.integers import check_day, is_number_to
from daychains.rules import check_rule
from daychains.steps import last_stop
from daychains.words import written_integer


class Desk:
    """A day and calendars that operations change one after the other."""

    def __init__(self, day, **offices):
        check_day(day)
        check_calendars(offices)
        self._day = day
        # This dict is never changed, as operations that are not reverted yet share it.
        self._calendars = dict(offices)
        # Each operation: the day and the calendars before it, and the days by which it has moved the day on.
        self._operations = []

    @property
    def day(self):
        """The present day."""
        return self._day

    @property
    def calendars(self):
        """The dict of the calendars, offices in ascending order."""
        return {office: self._calendars[office] for office in sorted(self._calendars)}

    def go_to(self, day):
        """Make this day the present day."""
        check_day(day)
        self._operate(day, self._calendars, 0)

    def move(self, *letters):
        """Move the present day by these letters and return it."""
        found = self._arrival(list(letters), self._day)
        if letters:
            self._operate(found, self._calendars, found - self._day)
        return found

    def close_office(self, office, first, last):
        """Close the office from first to last."""
        check_office(self._calendars, office)
        self._give(office, self._calendars[office].with_closed(first, last))

    def open_office(self, office, first, last):
        """Open the office from first to last."""
        check_office(self._calendars, office)
        self._give(office, self._calendars[office].with_opened(first, last))

    def undo(self):
        """Revert the last operation that is not reverted."""
        if not self._operations:
            raise NothingToUndo("there is no operation that is not reverted")
        self._day, self._calendars, _ = self._operations.pop()

    def trial(self, *rules):
        """Return the days behind each of these rules, one after the other, without moving the present day."""
        days = []
        day = self._day
        for rule in rules:
            day = self._arrival(rule, day)
            days.append(day)
        return days

    def days(self):
        """Yield the day at the beginning and then the day after each operation that is not reverted."""
        for day, _, _ in self._operations:
            yield day
        yield self._day

    def told(self):
        """Return the day and the number of the offices in words."""
        return [f"day {written_integer(self._day)}", f"offices {len(self._calendars)}"]

    def __len__(self):
        return len(self._operations)

    def __eq__(self, other):
        if not isinstance(other, Desk):
            return False
        return self._day == other._day and self._calendars == other._calendars

    def _arrival(self, rule, day):
        """Return the day to which the rule moves the day; raise the error that is due for it."""
        check_rule(rule)
        check_offices(self._calendars, rule)
        return last_stop(self._calendars, rule, day)

    def _operate(self, day, calendars, moved):
        """Do an operation that leads to this day and these calendars and has moved the day on by so many days."""
        self._operations.append((self._day, self._calendars, moved))
        self._day = day
        self._calendars = calendars

    def _give(self, office, calendar):
        """Do the operation that gives the office this calendar."""
        self._operate(self._day, {**self._calendars, office: calendar}, 0)

    def _days_moved(self):
        """Return the number of days by which operations that are not reverted have moved the day on."""
        return sum([moved for _, _, moved in self._operations])


class Counter(Desk):
    """A desk that counts the days by which it has been moved on."""

    def __init__(self, day, **offices):
        super().__init__(day, **offices)

    @property
    def moved_days(self):
        """The number of days by which moves that are not reverted have moved the day on."""
        return self._days_moved()

    def told(self):
        """Return the day, the number of the offices and the moved days in words."""
        return super().told() + [f"moved {written_integer(self._days_moved())}"]


class Limited(Desk):
    """A desk on which one move does not go beyond a limit of days."""

    def __init__(self, day, *, limit=10, **offices):
        check_day(day)
        if not is_number_to(limit, 10 ** 30):
            raise InvalidNumber("the limit is an integer from 0 to 10 ** 30")
        super().__init__(day, **offices)
        self._limit = limit

    def move(self, *letters):
        """Move the present day by these letters, by at most so many days as the limit, and return it."""
        return super().move(*letters)

    def told(self):
        """Return what the desk tells without a limit, and the limit in words."""
        return super().told() + [f"limit {written_integer(self._limit)}"]

    def _arrival(self, rule, day):
        """Return the day to which the rule moves the day, within the limit."""
        found = super()._arrival(rule, day)
        if found - day > self._limit:
            raise TooFar("the rule moves the day on by more days than the limit")
        return found


class LimitedCounter(Limited, Counter):
    """A desk with a limit that also counts the days by which it has been moved on."""

    def __init__(self, day, *, limit=10, **offices):
        # The limit is passed on as one of the keywords.
        keywords = {**offices, "limit": limit}
        super().__init__(day, **keywords)

    @property
    def moved_days(self):
        """The number of days by which moves that are not reverted have moved the day on."""
        return self._days_moved()

    def move(self, *letters):
        """Move the present day by these letters, by at most so many days as the limit, and return it."""
        return super().move(*letters)

    def told(self):
        """Return the day, the number of the offices, the moved days and the limit in words."""
        return super().told()
