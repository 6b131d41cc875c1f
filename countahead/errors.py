"""The errors that the package raises, one class for each kind of failure."""


class MarkError(ValueError):
    """Any failure that the package reports."""


class NoLine(MarkError):
    """The value is not a line."""


class NoPerson(MarkError):
    """The value is not a person of the line."""


class NoMark(MarkError):
    """The value is not a mark."""


class NoRounds(MarkError):
    """The value is not a number of rounds."""


class NoSize(MarkError):
    """The value is not a number of persons."""


class NoNumber(MarkError):
    """The value is not a number for which there is a row, an order or a code."""


class NoBound(MarkError):
    """The value is not a bound of the marks."""


class NoWeights(MarkError):
    """The value is not weights of the line."""


class NotStill(MarkError):
    """A round changes the line."""


class NotAlike(MarkError):
    """The lines have different lengths."""


class NoCode(MarkError):
    """The value is not a code."""


class NoOrder(MarkError):
    """The value is not an order."""


class Full(MarkError):
    """The live line has no room for another person."""


class Nothing(MarkError):
    """There is no operation to undo."""


class NoOperation(MarkError):
    """The value is not an operation of a log."""


class NoText(MarkError):
    """The value is not such a text."""


class NoRow(MarkError):
    """The value is not a row of the console."""
