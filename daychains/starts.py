"""Starts: the days from which a rule moves to a day."""

from daychains.checks import check_move


def latest_start(calendars, rule, day):
    """Return the latest day that the rule moves to the day or to an earlier one."""
    check_move(calendars, rule, day)
    return _latest(calendars, rule, day)


def start_days(calendars, rule, day):
    """Return the first and the last day that the rule moves exactly to the day, or None."""
    check_move(calendars, rule, day)
    # All days up to the latest one come to this day or before it.
    first = _latest(calendars, rule, day - 1) + 1
    last = _latest(calendars, rule, day)
    if first > last:
        return None
    return first, last


def _latest(calendars, rule, day):
    """Return the latest day that the rule moves to the day or to an earlier one; nothing is checked."""
    for letter in reversed(rule):
        if letter == "+":
            day -= 1
        else:
            day = calendars[letter].last_open(day)
    return day
