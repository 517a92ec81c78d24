"""The words of the notation: integers, and the stretches of a calendar."""

from daychains.errors import ParseError

DIGITS = "0123456789"
PART = 10 ** 18


def words_of(text):
    """Return the words of a text, between single spaces."""
    if not isinstance(text, str):
        raise ParseError()
    return text.split(" ")


def is_written_integer(word):
    """Return whether the word is an integer in the notation."""
    digits = word.removeprefix("-")
    if digits == "" or not all([sign in DIGITS for sign in digits]):
        return False
    return digits[0] != "0" or word == "0"


def read_integer(word):
    """Return the integer that is written so."""
    number = 0
    # `int` refuses a word of very many digits.
    for digit in word.removeprefix("-"):
        number = 10 * number + DIGITS.index(digit)
    return -number if word.startswith("-") else number


def written_integer(number):
    """Return the integer in the notation."""
    # `str` refuses an integer of very many digits.
    digits = ""
    left = abs(number)
    while left >= PART:
        left, low = divmod(left, PART)
        digits = str(low).zfill(18) + digits
    sign = "-" if number < 0 else ""
    return sign + str(left) + digits


def day_at(words, at):
    """Return the day that is written at the index."""
    if at == len(words) or not is_written_integer(words[at]):
        raise ParseError(at)
    return read_integer(words[at])


def stretch_at(words, at):
    """Return the stretch whose first day is written at the index, and its last day behind it."""
    first = day_at(words, at)
    last = day_at(words, at + 1)
    if last < first:
        raise ParseError(at + 1)
    return first, last


def stretches_behind(words):
    """Return the lists of the closed and of the opened stretches behind the first word, the pattern."""
    closed = []
    opened = []
    at = 1
    while at < len(words):
        if words[at] == "closed" and not opened:
            closed.append(stretch_at(words, at + 1))
        elif words[at] == "opened":
            opened.append(stretch_at(words, at + 1))
        else:
            raise ParseError(at)
        at += 3
    return closed, opened
