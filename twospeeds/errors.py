"""The errors that the package raises."""


class TwoSpeedsError(ValueError):
    """The base class of all errors of the package."""


class SyntaxProblem(TwoSpeedsError):
    """A text is wrong at a line and a column, both counted from 1."""

    def __init__(self, line, column):
        super().__init__(f"problem at line {line}, column {column}")
        self.line = line
        self.column = column


class TooMany(TwoSpeedsError):
    """An answer would have more parts than its limit."""

    def __init__(self, limit):
        super().__init__(f"more than {limit}")
        self.limit = limit


class InvalidNumber(TwoSpeedsError):
    """The parts given do not make a number that is allowed here."""


class ZeroDivisor(TwoSpeedsError):
    """A number is divided by 0."""


class OtherRoot(TwoSpeedsError):
    """Two numbers with different roots are combined."""


class NoVariable(TwoSpeedsError):
    """A program has no variable of this name."""


class OutOfRange(TwoSpeedsError):
    """A value is not an integer of its variable's range."""


class Incompatible(TwoSpeedsError):
    """A program has other variables than the one that it replaces."""


class NotReached(TwoSpeedsError):
    """So many acts are not done yet."""


class NoMark(TwoSpeedsError):
    """There is no mark of this number."""


class InvalidCommand(TwoSpeedsError):
    """A line is not a command, or not one that is possible now."""
