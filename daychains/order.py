"""The order of rules: whether one never gives a later day than another one, shown by letters or by calendars."""

from daychains.checks import is_calendars
from daychains.delays import all_offices, delayed
from daychains.integers import is_integer
from daychains.rules import check_rule, reduced
from daychains.steps import last_stop


def never_later(rule, other):
    """Return whether the rule never gives a later day than the other one."""
    return indices_in(rule, other) is not None


def same_days(rule, other):
    """Return whether both rules always give the same day."""
    return reduced(rule) == reduced(other)


def indices_in(rule, other):
    """Return the least ascending list of indices of the other rule that spells the reduced rule, or None."""
    letters = reduced(rule)
    check_rule(other)
    indices = []
    for at, letter in enumerate(other):
        if len(indices) < len(letters) and letter == letters[len(indices)]:
            indices.append(at)
    if len(indices) < len(letters):
        return None
    return indices


def counterexample(rule, other):
    """Return calendars and a day for which the rule gives a later day than the other one, or None."""
    if never_later(rule, other):
        return None
    return delayed(rule, [other], all_offices([rule, other]))


def shows_later(rule, other, value):
    """Return whether the value is calendars and a day for which the rule gives a later day than the other one."""
    check_rule(rule)
    check_rule(other)
    if not isinstance(value, tuple) or len(value) != 2:
        return False
    calendars, day = value
    if not is_calendars(calendars) or not is_integer(day):
        return False
    if not all([office in calendars for office in all_offices([rule, other])]):
        return False
    return last_stop(calendars, rule, day) > last_stop(calendars, other, day)
