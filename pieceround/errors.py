"""The errors that the package raises."""


class PieceError(ValueError):
    """A value is not what is asked for."""


class InvalidNumber(PieceError):
    """A value is no number, or numbers do not have one root."""


class InvalidOrder(PieceError):
    """A value is no order, or rows do not make one."""


class InvalidExchange(PieceError):
    """A value is no exchange."""


class InvalidLengths(PieceError):
    """A value is no lengths of the names."""


class InvalidPoint(PieceError):
    """A value is no point of the segment."""


class InvalidCourse(PieceError):
    """A value is no course, or it does not fit."""


class InvalidReading(PieceError):
    """A value is not the reading, or no part of one."""


class InvalidTrace(PieceError):
    """A value is no trace."""


class InvalidHeights(PieceError):
    """A value is no right heights."""


class InvalidProgram(PieceError):
    """A value is no program."""


class InvalidOperation(PieceError):
    """An operation is not possible with these values."""


class ParseError(PieceError):
    """A text is not read; index tells where."""

    def __init__(self, index):
        self.index = index


class InvalidCount(IndexError):
    """A value is no integer within the bounds."""

    def __init__(self, value):
        self.value = value


class UnknownName(KeyError):
    """A value is none of the names."""

    def __init__(self, name):
        self.name = name


class NothingToUndo(RuntimeError):
    """There are fewer changes than are to be taken back or done again."""

    def __init__(self, wanted):
        self.wanted = wanted


class TooMany(OverflowError):
    """There is more than the limit allows."""

    def __init__(self, limit):
        self.limit = limit


class Refused(ArithmeticError):
    """A step is refused for a reason."""

    def __init__(self, reason):
        self.reason = reason
