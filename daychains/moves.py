"""Moves of a day by a rule: once, letter by letter, and repeated."""

from daychains.checks import check_move
from daychains.errors import InvalidNumber
from daychains.integers import check_day, is_number_to
from daychains.repetitions import Repetition
from daychains.steps import last_stop, step


def moved(calendars, rule, day):
    """Return the day to which the rule moves the day."""
    check_move(calendars, rule, day)
    return last_stop(calendars, rule, day)


def stops(calendars, rule, day):
    """Yield the day itself and then the day after each letter."""
    check_move(calendars, rule, day)
    # The caller may change the arguments before asking for the next day.
    offices = dict(calendars)
    letters = list(rule)
    yield day
    for letter in letters:
        day = step(offices, letter, day)
        yield day


def repeated(calendars, rule, day, times):
    """Return the day after the rule has moved it so many times."""
    check_move(calendars, rule, day)
    if not is_number_to(times, 10 ** 30):
        raise InvalidNumber("the number of times is an integer from 0 to 10 ** 30")
    reached, _ = Repetition(calendars, rule).after(day, times, None)
    return reached


def repeats_to(calendars, rule, day, goal):
    """Return the least number of times after which the goal is reached or passed, or None."""
    check_move(calendars, rule, day)
    check_day(goal)
    # Each time is at least one day, unless the rule rests.
    reached, times = Repetition(calendars, rule).after(day, goal - day, goal)
    if reached < goal:
        return None
    return times


def round_of(calendars, rule, day):
    """Return the least number of times after which the moves come again in the end, and the days of that many."""
    check_move(calendars, rule, day)
    return Repetition(calendars, rule).round_from(day)
