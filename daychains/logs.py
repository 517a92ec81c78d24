"""Logs: what is known of calendars from the days to which offices have moved others."""

from daychains.calendars import Calendar
from daychains.errors import InvalidLog, InvalidOffice, LogClash
from daychains.integers import check_day, is_integer
from daychains.rules import check_rule, is_office, offices_in
from daychains.steps import last_stop


def find_clash(log):
    """Return the indices of the first two entries that clash, or None."""
    _check_log(log)
    for second in range(len(log)):
        for first in range(second):
            if _clash(log[first], log[second]):
                return first, second
    return None


def known_state(log, office, day):
    """Return whether the office is open or closed on the day in all calendars that agree with the log, or free."""
    _check_agreed(log)
    if not is_office(office):
        raise InvalidOffice("an office is a string of 1 to 8 lowercase letters")
    check_day(day)
    for named, start, result in log:
        if named == office and start <= day <= result:
            return "open" if day == result else "closed"
    return "free"


def day_range(log, rule, day):
    """Return the least and the greatest day to which the rule moves the day by calendars that agree with the log."""
    _check_agreed(log)
    check_rule(rule)
    check_day(day)
    return _least(log, rule, day), _greatest(log, rule, day)


def _is_log(value):
    """Return whether the value is a log."""
    return isinstance(value, list) and all([_is_entry(entry) for entry in value])


def _is_entry(value):
    """Return whether the value is an entry of a log: a tuple of an office, a day and a result."""
    if not isinstance(value, tuple) or len(value) != 3:
        return False
    office, day, result = value
    return is_office(office) and is_integer(day) and is_integer(result) and day <= result


def _check_log(value):
    """Raise InvalidLog for a value that is not a log."""
    if not _is_log(value):
        raise InvalidLog("a log is a list of tuples of an office and two days, the second not earlier than the first")


def _check_agreed(value):
    """Raise InvalidLog or LogClash for a value that is not a log with which some calendars agree."""
    clash = find_clash(value)
    if clash is not None:
        raise LogClash(clash[0], clash[1])


def _clash(entry, other):
    """Return whether one of two entries says that their office is closed on the result of the other one."""
    return entry[0] == other[0] and (entry[1] <= other[2] < entry[2] or other[1] <= entry[2] < other[2])


def _least(log, rule, day):
    """Return the least day to which the rule moves the day: each office is open on all days that may be open."""
    calendars = {}
    for office in offices_in(rule):
        closed = [(start, result - 1) for named, start, result in log if named == office and start < result]
        calendars[office] = Calendar("o", closed=closed)
    return last_stop(calendars, rule, day)


def _greatest(log, rule, day):
    """Return the greatest day to which the rule moves the day, or None: no office is open where it may be closed."""
    for letter in rule:
        if letter == "+":
            day += 1
        else:
            results = [result for named, _, result in log if named == letter and result >= day]
            # Behind the last day that is known to be open, an office may be closed for as long as one likes.
            if not results:
                return None
            day = min(results)
    return day
