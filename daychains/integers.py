"""Integers: which values are some, and how many of them stand below a limit."""

from daychains.errors import InvalidDay


def is_integer(value):
    """Return whether the value is an integer; True and False are none."""
    return isinstance(value, int) and not isinstance(value, bool)


def is_number_to(value, most):
    """Return whether the value is an integer from 0 to the greatest one allowed."""
    return is_integer(value) and 0 <= value <= most


def check_day(value):
    """Raise InvalidDay for a value that is not a day."""
    if not is_integer(value):
        raise InvalidDay("a day is an integer")


def not_above(numbers, limit):
    """Return how many of the ascending numbers are not greater than the limit."""
    low = 0
    high = len(numbers)
    while low < high:
        middle = (low + high) // 2
        if numbers[middle] <= limit:
            low = middle + 1
        else:
            high = middle
    return low
