"""Stretches of days: tuples (first, last) that contain the days from first to last."""

from daychains.errors import InvalidStretches
from daychains.integers import check_day, is_integer


def is_stretch(value):
    """Return whether the value is a stretch."""
    if not isinstance(value, tuple) or len(value) != 2:
        return False
    first, last = value
    return is_integer(first) and is_integer(last) and first <= last


def is_stretches(value):
    """Return whether the value is a list or tuple of stretches."""
    return isinstance(value, (list, tuple)) and all([is_stretch(entry) for entry in value])


def check_ends(first, last):
    """Raise InvalidDay or InvalidStretches for two values that are not the ends of a stretch."""
    check_day(first)
    check_day(last)
    if last < first:
        raise InvalidStretches("the last day is not earlier than the first one")


def merged(stretches):
    """Return ascending stretches of the same days, none of which meet or touch."""
    found = []
    for first, last in sorted(stretches):
        if found and first <= found[-1][1] + 1:
            start, end = found.pop()
            found.append((start, max(end, last)))
        else:
            found.append((first, last))
    return found


def without(stretches, removed):
    """Return the parts of the stretches outside the removed ones; both are merged, and so is the result."""
    found = []
    passed = 0
    for first, last in stretches:
        while passed < len(removed) and removed[passed][1] < first:
            passed += 1
        start = first
        # A removed stretch may reach into the next one too, so it is not passed here.
        at = passed
        while at < len(removed) and removed[at][0] <= last:
            if start < removed[at][0]:
                found.append((start, removed[at][0] - 1))
            start = removed[at][1] + 1
            at += 1
        if start <= last:
            found.append((start, last))
    return found
