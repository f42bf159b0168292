"""The errors of the package: each of them is a LookError, and of no other class of the package."""


class LookError(ValueError):
    """What all errors of the package have in common."""


class Wrong(LookError):
    """The argument at this place is not as described."""

    def __init__(self, place):
        self.place = place


class NoTable(LookError):
    """There is no table of this name."""

    def __init__(self, name):
        self.name = name


class Twice(LookError):
    """A table of this name is there already."""

    def __init__(self, name):
        self.name = name


class BadRow(LookError):
    """The row has not as many integers as the table has columns."""

    def __init__(self, name, row):
        self.name = name
        self.row = row


class NoText(LookError):
    """The text tells nothing from the line with this index on."""

    def __init__(self, line):
        self.line = line


class TooMany(LookError):
    """There are more than so many."""

    def __init__(self, most):
        self.most = most


class NotNested(LookError):
    """The question is not nested."""


class NotFit(LookError):
    """Because of the atom with this index the question does not fit the tables."""

    def __init__(self, index):
        self.index = index


class NoShape(LookError):
    """No shape has just these points."""


class NoPoint(LookError):
    """There is no point, or no page of points, with this index."""

    def __init__(self, index):
        self.index = index


class NoName(LookError):
    """There is no note, or no question, of this name."""

    def __init__(self, name):
        self.name = name


class PowerCut(LookError):
    """The disk has no power."""


class NoCommand(LookError):
    """The line is no command."""
