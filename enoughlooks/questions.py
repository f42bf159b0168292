"""Questions looked into: the atoms and ranges of their columns, their points and the parts of these."""

from enoughlooks.forms import is_row


def atoms_of(question, column):
    """The ascending tuple of the indexes of the ATOMS OF a column."""
    return tuple([index for index, (word, name, columns) in enumerate(question[1]) if column in columns])


def range_of(question, column):
    """The bounds (low, high) of the RANGE of a column."""
    for name, low, high in question[2]:
        if name == column:
            return low, high
    return None, None


def is_between(low, value, high):
    """Whether a value is not below low nor above high, None being no bound."""
    return (low is None or low <= value) and (high is None or value <= high)


def lets(question, column, value):
    """Whether the RANGE of a column lets a value."""
    low, high = range_of(question, column)
    return is_between(low, value, high)


def is_point(question, thing):
    """Whether a value is a POINT."""
    columns = question[0]
    if not is_row(thing) or len(thing) != len(columns):
        return False
    return all([lets(question, column, value) for column, value in zip(columns, thing)])


def part_of(question, atom, point):
    """The PART of a POINT at an ATOM."""
    columns = question[0]
    return tuple([point[columns.index(column)] for column in question[1][atom][2]])


def names_of(question):
    """The LOT of the names of the ATOMS."""
    return tuple(sorted([name for word, name, columns in question[1]]))


def narrowed(question, column, low, high):
    """The question that lets at a column just what it let from low to high; None if this is no integer."""
    columns, atoms, ranges = question
    elder_low, elder_high = range_of(question, column)
    first = max([bound for bound in (elder_low, low) if bound is not None], default=None)
    last = min([bound for bound in (elder_high, high) if bound is not None], default=None)
    if first is None and last is None:
        return columns, atoms, tuple([bounds for bounds in ranges if bounds[0] != column])
    if first is not None and last is not None and first > last:
        return None
    bounded = (column, first, last)
    if column not in [bounds[0] for bounds in ranges]:
        return columns, atoms, ranges + (bounded,)
    return columns, atoms, tuple([bounded if bounds[0] == column else bounds for bounds in ranges])


def in_order(question, columns):
    """The question with its columns in this order."""
    return columns, question[1], question[2]
