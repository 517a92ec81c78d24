"""Meetings: the next day on which all offices are open, the fewest moves to it, and days that show that many needed."""

from daychains.checks import check_calendars, check_office
from daychains.commons import first_common
from daychains.errors import NoCommonDay, TooMany
from daychains.integers import check_day, is_integer

MOST_LETTERS = 400


def next_common(calendars, day, *offices):
    """Return the first day that is not earlier and on which all of these offices are open, or None."""
    meant = _meant(calendars, day, offices)
    return first_common([calendars[office] for office in meant], day)


def fewest_moves(calendars, day, *offices):
    """Return a rule of these offices with the fewest letters that moves the day to the next common day."""
    letters, _ = _farthest_moves(calendars, day, _meant(calendars, day, offices))
    return letters


def needed_days(calendars, day, *offices):
    """Return as many ascending days as moves are needed: no two of them can be passed by one letter."""
    _, days = _farthest_moves(calendars, day, _meant(calendars, day, offices))
    return days


def shows_needed(calendars, day, value, *offices):
    """Return whether the value is a list of days that shows that as many letters are needed."""
    meant = _meant(calendars, day, offices)
    chosen = [calendars[office] for office in meant]
    goal = first_common(chosen, day)
    if goal is None or not isinstance(value, list):
        return False
    if not all([is_integer(entry) and day <= entry < goal for entry in value]):
        return False
    # On no day before the common one are all offices open, so a day that is named twice shows nothing.
    return all([_all_open_between(chosen, low, high) for low, high in zip(value, value[1:])])


def _meant(calendars, day, offices):
    """Return the offices that are meant; raise the error that is due first for wrong calendars, days and offices."""
    check_calendars(calendars)
    check_day(day)
    for office in offices:
        check_office(calendars, office)
    # Equal dicts may have their offices in another order.
    return list(offices) if offices else sorted(calendars)


def _farthest_moves(calendars, day, offices):
    """Return the letters of the fewest moves to the next common day, and the days from which they move."""
    goal = first_common([calendars[office] for office in offices], day)
    if goal is None:
        raise NoCommonDay("there is no day on which all of these offices are open")
    letters = []
    days = []
    # A later day is never moved to an earlier one, so the farthest move is always a best one.
    while day < goal:
        if len(letters) == MOST_LETTERS:
            raise TooMany(MOST_LETTERS)
        found = [calendars[office].next_open(day) for office in offices]
        days.append(day)
        day = max(found)
        letters.append(offices[found.index(day)])
    return letters, days


def _all_open_between(calendars, first, last):
    """Return whether each of the calendars is open on some day from first to last."""
    return all([calendar.next_open(first) <= last for calendar in calendars])
