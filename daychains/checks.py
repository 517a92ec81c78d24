"""Checks of calendars and rules that several modules take."""

from daychains.calendars import Calendar
from daychains.errors import InvalidCalendars, InvalidRules, UnknownOffice
from daychains.integers import check_day
from daychains.rules import check_rule, is_office, is_rule


def is_calendars(value):
    """Return whether the value is calendars: a dict from offices to Calendar objects."""
    if not isinstance(value, dict):
        return False
    return all([is_office(office) and isinstance(calendar, Calendar) for office, calendar in value.items()])


def is_rules(value):
    """Return whether the value is a list of one or more rules."""
    return isinstance(value, list) and len(value) > 0 and all([is_rule(entry) for entry in value])


def check_calendars(value):
    """Raise InvalidCalendars for a value that is not calendars."""
    if not is_calendars(value):
        raise InvalidCalendars("calendars are a dict from offices to Calendar objects")


def check_rules(value):
    """Raise InvalidRules for a value that is not a list of one or more rules."""
    if not is_rules(value):
        raise InvalidRules("rules are a list of one or more rules")


def check_office(calendars, value):
    """Raise UnknownOffice for a value that is not an office of the calendars."""
    if not is_office(value) or value not in calendars:
        raise UnknownOffice(value)


def check_offices(calendars, rule):
    """Raise UnknownOffice for the first office of the rule that is not in the calendars."""
    for letter in rule:
        if letter != "+" and letter not in calendars:
            raise UnknownOffice(letter)


def check_move(calendars, rule, day):
    """Raise the error that is due first where calendars, a rule and a day are needed."""
    check_calendars(calendars)
    check_rule(rule)
    check_offices(calendars, rule)
    check_day(day)
