"""Calendars: a repeated pattern of open and closed days, and stretches of days that differ from it."""

from daychains.errors import InvalidNumber, InvalidPattern, InvalidStretches, ParseError
from daychains.integers import check_day, is_number_to, not_above
from daychains.stretches import check_ends, is_stretches, merged, without
from daychains.words import stretches_behind, words_of


class Calendar:
    """The open days of one office.

    The open days are numbered without a gap in ascending order, so that days may be far away:
    the rank of a day is the number of open days from day 0 of the bare pattern to the day before it.
    """

    LONGEST = 8

    def __init__(self, pattern, *, closed=(), opened=()):
        if not Calendar.is_pattern(pattern):
            raise InvalidPattern("a pattern is 1 to 8 signs, o or -, with at least one o")
        if not is_stretches(closed):
            raise InvalidStretches("closed is a list or tuple of stretches")
        if not is_stretches(opened):
            raise InvalidStretches("opened is a list or tuple of stretches")
        self._pattern = pattern
        self._places = [place for place, sign in enumerate(pattern) if sign == "o"]
        self._closed = merged(closed)
        self._opened = without(merged(opened), self._closed)
        # The third number of a piece is the number of open days that each of its days counts for.
        self._pieces = sorted([(first, last, 0) for first, last in self._closed]
                              + [(first, last, 1) for first, last in self._opened])
        self._firsts = [piece[0] for piece in self._pieces]
        self._ranks = []
        self._shifts = []
        self._rank_pieces()

    @staticmethod
    def is_pattern(value):
        """Return whether the value is a pattern."""
        if not isinstance(value, str) or not 1 <= len(value) <= Calendar.LONGEST:
            return False
        return "o" in value and all([sign in "o-" for sign in value])

    @classmethod
    def read(cls, text):
        """Return the calendar with this notation."""
        words = words_of(text)
        if not cls.is_pattern(words[0]):
            raise ParseError(0)
        closed, opened = stretches_behind(words)
        return cls(words[0], closed=closed, opened=opened)

    @property
    def pattern(self):
        """The pattern as it was given."""
        return self._pattern

    def is_open(self, day):
        """Return whether the calendar is open on the day."""
        check_day(day)
        return self._rank(day) < self._rank(day + 1)

    def next_open(self, day):
        """Return the first open day that is not earlier."""
        check_day(day)
        return self._day_of(self._rank(day))

    def last_open(self, day):
        """Return the last open day that is not later."""
        check_day(day)
        return self._day_of(self._rank(day + 1) - 1)

    def nth_open(self, day, number):
        """Return the open day with this number, from 0, among those that are not earlier than the day."""
        check_day(day)
        if not is_number_to(number, 10 ** 30):
            raise InvalidNumber("the number of an open day is an integer from 0 to 10 ** 30")
        return self._day_of(self._rank(day) + number)

    def count_open(self, first, last):
        """Return the number of open days from first to last."""
        check_day(first)
        check_day(last)
        return max(0, self._rank(last + 1) - self._rank(first))

    def open_days(self, day):
        """Yield the open days that are not earlier than the day, without end."""
        found = self.next_open(day)
        while True:
            yield found
            found = self.next_open(found + 1)

    def with_closed(self, first, last):
        """Return a calendar that is closed from first to last and otherwise the same."""
        check_ends(first, last)
        return Calendar(self._pattern, closed=self._closed + [(first, last)], opened=self._opened)

    def with_opened(self, first, last):
        """Return a calendar that is open from first to last and otherwise the same."""
        check_ends(first, last)
        closed = without(self._closed, [(first, last)])
        return Calendar(self._pattern, closed=closed, opened=self._opened + [(first, last)])

    def signs_at(self, day):
        """Return the signs that decide on the day, repeated as a pattern is, and the first day with others, or None.

        In a closed stretch that is one sign for closed, in an opened one it is one for open.
        """
        at = not_above(self._firsts, day)
        if at > 0 and day <= self._pieces[at - 1][1]:
            _, last, each = self._pieces[at - 1]
            return ("o" if each == 1 else "-"), last + 1
        if at == len(self._firsts):
            return self._pattern, None
        return self._pattern, self._firsts[at]

    def __eq__(self, other):
        if not isinstance(other, Calendar):
            return False
        # Patterns of different lengths agree on every day if they do once repeated to one length.
        if self._pattern * len(other._pattern) != other._pattern * len(self._pattern):
            return False
        # From one of these days to the next, each calendar is all closed, all open or as the pattern:
        # if both have as many open days there, they have the same ones.
        return all([self._rank(day) == other._rank(day) for day in self._turns() + other._turns()])

    def _turns(self):
        """Return the first day of each piece and the day behind its last one."""
        return [day for first, last in self._closed + self._opened for day in (first, last + 1)]

    def _rank_pieces(self):
        """Note the rank of each piece's first day, and by how much ranks behind the piece differ from the pattern's."""
        shift = 0
        for first, last, each in self._pieces:
            rank = self._plain_rank(first) + shift
            shift = rank + each * (last + 1 - first) - self._plain_rank(last + 1)
            self._ranks.append(rank)
            self._shifts.append(shift)

    def _plain_rank(self, day):
        """Return the rank that the day has in the bare pattern."""
        rounds, place = divmod(day, len(self._pattern))
        return rounds * len(self._places) + self._pattern[:place].count("o")

    def _plain_day(self, rank):
        """Return the open day of the bare pattern that has the rank."""
        rounds, number = divmod(rank, len(self._places))
        return rounds * len(self._pattern) + self._places[number]

    def _rank(self, day):
        """Return the rank of the day."""
        at = not_above(self._firsts, day) - 1
        if at < 0:
            return self._plain_rank(day)
        first, last, each = self._pieces[at]
        if day > last:
            return self._plain_rank(day) + self._shifts[at]
        return self._ranks[at] + each * (day - first)

    def _day_of(self, rank):
        """Return the open day that has the rank."""
        # Of several pieces with one rank, all but the last are closed, and so are the days between them.
        at = not_above(self._ranks, rank) - 1
        if at < 0:
            return self._plain_day(rank)
        first, last, each = self._pieces[at]
        within = rank - self._ranks[at]
        if each == 1 and within <= last - first:
            return first + within
        return self._plain_day(rank - self._shifts[at])
