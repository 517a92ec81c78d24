"""The notation of rules and of calendars."""

from daychains.calendars import Calendar
from daychains.errors import ParseError
from daychains.rules import check_rule, is_letter
from daychains.words import words_of, written_integer


def format_rule(rule):
    """Return the notation of the rule."""
    check_rule(rule)
    return " ".join(rule) if rule else "."


def parse_rule(text):
    """Return the rule with this notation."""
    words = words_of(text)
    if words == ["."]:
        return []
    for at, word in enumerate(words):
        if not is_letter(word):
            raise ParseError(at)
    return words


def format_calendar(pattern, *, closed=(), opened=()):
    """Return the notation of the calendar with this pattern and these stretches."""
    # The calendar itself is not needed, but its errors are those that are due.
    Calendar(pattern, closed=closed, opened=opened)
    return " ".join([pattern] + _written("closed", closed) + _written("opened", opened))


def parse_calendar(text):
    """Return the calendar with this notation."""
    return Calendar.read(text)


def _written(word, stretches):
    """Return the notation of each of the stretches, which begins with the word."""
    return [f"{word} {written_integer(first)} {written_integer(last)}" for first, last in stretches]
