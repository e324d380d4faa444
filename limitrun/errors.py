"""The errors that the package raises."""


class LimitRunError(ValueError):
    """The base class of all errors of the package."""


class SyntaxProblem(LimitRunError):
    """A text is no program or no expression; the place of its first problem."""

    def __init__(self, line, column):
        LimitRunError.__init__(self, f"line {line}, column {column}")
        self.line = line
        self.column = column


class BadClaim(LimitRunError):
    """The claim with this index does not hold."""

    def __init__(self, index):
        LimitRunError.__init__(self, f"claim {index}")
        self.index = index


class BadPath(LimitRunError):
    """The entry of a path with this index does not fit."""

    def __init__(self, index):
        LimitRunError.__init__(self, f"path entry {index}")
        self.index = index


class TooLong(LimitRunError):
    """The coefficients of a time sum to more than this limit."""

    def __init__(self, limit):
        LimitRunError.__init__(self, f"the coefficients sum to more than {limit}")
        self.limit = limit


class NoVariable(LimitRunError):
    """A program has no variable of this name."""

    def __init__(self, name):
        LimitRunError.__init__(self, f"no variable {name}")
        self.name = name


class InvalidOrdinal(LimitRunError):
    """A text is not the canonical text of an ordinal."""


class NotLater(LimitRunError):
    """A time is before the time that it may not be before."""


class ZeroDivisor(LimitRunError):
    """The ordinal to divide by is 0."""


class NoEvent(LimitRunError):
    """There is no event with this number."""


class OutOfRange(LimitRunError):
    """A value is not an integer of the variable's range."""


class Incompatible(LimitRunError):
    """Two programs have different variables or ranges."""


class NotReached(LimitRunError):
    """A time is later than the present time."""


class NoBreakpoint(LimitRunError):
    """There is no breakpoint with this number."""


class NoMark(LimitRunError):
    """There is no mark with this number."""


class InvalidCommand(LimitRunError):
    """A line is no command."""
