"""Bounds: the longest rule below two rules, the shortest one above them, and all reduced rules below one."""

from daychains.errors import InvalidNumber, NotBelow
from daychains.integers import is_integer, is_number_to
from daychains.order import never_later
from daychains.rules import check_rule, is_rule, reduced
from daychains.shared import longest_shared, shortest_around
from daychains.spelled import Spelled


def longest_below(rule, other):
    """Return a reduced rule with the most letters that is never later than both rules."""
    return longest_shared(reduced(rule), reduced(other))


def shortest_above(rule, other):
    """Return a rule with the fewest letters such that neither rule is ever later than it."""
    return shortest_around(reduced(rule), reduced(other))


def count_below(rule, size):
    """Return the number of reduced rules with so many letters that are never later than the rule."""
    _check_size(rule, size)
    # A size may be far too great to be counted up to.
    if size > len(rule):
        return 0
    return Spelled(rule, size).total(size)


def nth_below(rule, size, number):
    """Return the one with this number, from 0, among the reduced rules with so many letters below the rule."""
    many = count_below(rule, size)
    if not is_number_to(number, many - 1):
        raise InvalidNumber("the number is an integer from 0 to the count less 1")
    return Spelled(rule, size).numbered(size, number)


def index_below(rule, below):
    """Return the number of this reduced rule among those with as many letters that are never later than the rule."""
    check_rule(rule)
    if not is_rule(below) or reduced(below) != below or not never_later(below, rule):
        raise NotBelow("not a reduced rule that is never later than the rule")
    return Spelled(rule, len(below)).number_of(below)


def _check_size(rule, size):
    """Raise InvalidRule or InvalidNumber for values that are not a rule and a number of letters."""
    check_rule(rule)
    if not is_integer(size) or size < 0:
        raise InvalidNumber("the number of letters is an integer from 0 on")
