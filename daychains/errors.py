"""The errors that this package raises."""


class DayError(ValueError):
    """The base class of all errors of this package."""


class InvalidPattern(DayError):
    """A value is not a pattern."""


class InvalidStretches(DayError):
    """A value is not a list or tuple of stretches, or two days are not a stretch."""


class InvalidDay(DayError):
    """A value is not a day."""


class InvalidNumber(DayError):
    """A value is not an integer within the limits that are asked for."""


class InvalidOffice(DayError):
    """A value is not an office."""


class InvalidRule(DayError):
    """A value is not a rule."""


class InvalidRules(DayError):
    """A value is not a list of one or more rules."""


class InvalidCalendars(DayError):
    """A value is not calendars."""


class InvalidLog(DayError):
    """A value is not a log."""


class InvalidCommand(DayError):
    """A value is not a command of the console."""


class NotBelow(DayError):
    """A value is not a reduced rule that is never later than the given one."""


class NoCommonDay(DayError):
    """There is no day on which all offices are open."""


class NothingToUndo(DayError):
    """A desk has no operation that could be reverted."""


class TooFar(DayError):
    """A move would go beyond the limit of a desk."""


class UnknownOffice(DayError):
    """A value, kept as `office`, is not an office of the calendars."""

    def __init__(self, office):
        # The value may be of any kind, also one that cannot be shown, so the message leaves it out.
        super().__init__("not an office of the calendars")
        self.office = office


class LogClash(DayError):
    """Two entries of a log, at the indices `first` and `second`, clash."""

    def __init__(self, first, second):
        super().__init__(f"the entries {first} and {second} of the log clash")
        self.first = first
        self.second = second


class TooMany(DayError):
    """More than `limit` letters would be needed."""

    def __init__(self, limit):
        super().__init__(f"more than {limit} letters are needed")
        self.limit = limit


class ParseError(DayError):
    """A text is not in the notation; `index` is that of the wrong word, None for what is no string."""

    def __init__(self, index=None):
        super().__init__(f"not in the notation (index {index})")
        self.index = index
