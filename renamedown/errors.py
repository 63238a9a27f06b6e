"""The errors of the package."""


class RowError(ValueError):
    """A value that has not the form that it must have."""


class InvalidRow(RowError):
    """No row, or no steps of a row."""


class InvalidDeed(RowError):
    """No deed."""


class InvalidMoves(RowError):
    """No moves."""


class InvalidPaper(RowError):
    """No paper."""


class InvalidOperation(RowError):
    """An argument with which the call cannot be done."""


class ParseError(RowError):
    """A text of no such form; `line` is the index of the wrong line, or None."""

    def __init__(self, line):
        self.line = line


class UnknownName(KeyError):
    """A name that stands for nothing."""

    def __init__(self, word):
        self.word = word


class NoWay(LookupError):
    """There is no such thing, for this reason."""

    def __init__(self, reason):
        self.reason = reason


class InvalidNumber(IndexError):
    """A value that is none of the numbers that can stand here."""

    def __init__(self, value):
        self.value = value


class NothingToUndo(RuntimeError):
    """There are not so many changes that can be taken back."""

    def __init__(self, many):
        self.many = many


class TooMany(OverflowError):
    """There would be more than the limit."""

    def __init__(self, limit):
        self.limit = limit


class Locked(ArithmeticError):
    """A step that is locked."""

    def __init__(self, step):
        self.step = step
