"""Rules: lists of letters, each an office or `+`, that move a day letter by letter."""

from daychains.errors import InvalidNumber, InvalidOffice, InvalidRule
from daychains.integers import is_number_to

SMALL_LETTERS = "abcdefghijklmnopqrstuvwxyz"


def is_office(value):
    """Return whether the value is an office."""
    if not isinstance(value, str) or not 1 <= len(value) <= 8:
        return False
    return all([sign in SMALL_LETTERS for sign in value])


def is_letter(value):
    """Return whether the value is an office or `+`."""
    return isinstance(value, str) and (value == "+" or is_office(value))


def is_rule(value):
    """Return whether the value is a rule."""
    return isinstance(value, list) and all([is_letter(entry) for entry in value])


def check_rule(value):
    """Raise InvalidRule for a value that is not a rule."""
    if not is_rule(value):
        raise InvalidRule("a rule is a list of letters")


def reduced(rule):
    """Return the rule in which of neighbouring equal offices only one is kept."""
    check_rule(rule)
    kept = []
    for letter in rule:
        if letter == "+" or not kept or kept[-1] != letter:
            kept.append(letter)
    return kept


def offices_in(rule):
    """Return the ascending list of the different offices of the rule."""
    check_rule(rule)
    return sorted({letter for letter in rule if letter != "+"})


def joined(*rules):
    """Return the reduced rule of all rules one after the other."""
    letters = []
    for rule in rules:
        letters.extend(reduced(rule))
    return reduced(letters)


def working_days(office, count):
    """Return the rule that moves to the first open day of the office and then on by `count` open days."""
    if not is_office(office):
        raise InvalidOffice("an office is a string of 1 to 8 lowercase letters")
    if not is_number_to(count, 99):
        raise InvalidNumber("the number of working days is an integer from 0 to 99")
    return [office] + ["+", office] * count
