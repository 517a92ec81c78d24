"""The console: commands in words, for a day and calendars that it holds."""

from daychains.errors import InvalidCommand
from daychains.meetings import next_common
from daychains.moves import moved
from daychains.notation import parse_calendar, parse_rule
from daychains.order import never_later, same_days
from daychains.rules import is_office
from daychains.starts import latest_start
from daychains.words import is_written_integer, read_integer, written_integer


class Console:
    """A day, at first 0, and calendars, at first none, with commands for them."""

    def __init__(self):
        self._calendars = {}
        self._day = 0

    def execute(self, command):
        """Carry out the command and return its answer."""
        if not isinstance(command, str):
            raise InvalidCommand("a command is a string")
        words = command.split(" ")
        first, rest = words[0], words[1:]
        if first == "office":
            return self._set_office(rest)
        if first == "day":
            return self._set_day(rest)
        if first == "move":
            self._day = moved(self._calendars, _rule_of(rest), self._day)
            return written_integer(self._day)
        if first == "where":
            return written_integer(moved(self._calendars, _rule_of(rest), self._day))
        if first == "start":
            return written_integer(latest_start(self._calendars, _rule_of(rest), self._day))
        if first == "common":
            return self._common_day(rest)
        if first == "compare":
            return _compared(rest)
        raise InvalidCommand("no command begins with this word")

    def _set_office(self, words):
        """Give the office the calendar."""
        if len(words) < 2 or not is_office(words[0]):
            raise InvalidCommand("behind `office` stand an office and a calendar")
        self._calendars[words[0]] = parse_calendar(" ".join(words[1:]))
        return "ok"

    def _set_day(self, words):
        """Set the day."""
        if len(words) != 1 or not is_written_integer(words[0]):
            raise InvalidCommand("behind `day` stands one day")
        self._day = read_integer(words[0])
        return "ok"

    def _common_day(self, words):
        """Return the next common day of all offices."""
        if words:
            raise InvalidCommand("behind `common` stands nothing")
        found = next_common(self._calendars, self._day)
        return "none" if found is None else written_integer(found)


def _rule_of(words):
    """Return the rule that these words, all behind the first one, write."""
    if not words:
        raise InvalidCommand("a rule is missing")
    return parse_rule(" ".join(words))


def _compared(words):
    """Return how the rule before the word `;` compares with the one behind it."""
    if words.count(";") != 1:
        raise InvalidCommand("behind `compare` stand two rules with one `;` between them")
    at = words.index(";")
    rule = parse_rule(" ".join(words[:at]))
    other = parse_rule(" ".join(words[at + 1:]))
    if same_days(rule, other):
        return "same"
    if never_later(rule, other):
        return "never later"
    if never_later(other, rule):
        return "never earlier"
    return "neither"
