"""Points of shapes counted, and told one after the other, without going through them."""

from enoughlooks.errors import NoPoint
from enoughlooks.forests import forest_of
from enoughlooks.gaps import many_below
from enoughlooks.shapes import choices_many, places_in_line, turns_to


def many_of(shape):
    """How many points a SHAPE has."""
    return choices_many(shape)


def values_of(question, shape, column):
    """The dict from the values at a column to how many points have each."""
    counts = {}
    if shape is not None:
        _count(shape, turns_to(question, column), 1, counts)
    return {value: counts[value] for value in sorted(counts)}


def sum_of(question, shape, column):
    """The sum of the values at a column over all points."""
    counts = values_of(question, shape, column)
    return sum([value * counts[value] for value in counts])


def least_of(question, shape, column):
    """The least value at a column, None if there are no points."""
    return min(list(values_of(question, shape, column)), default=None)


def greatest_of(question, shape, column):
    """The greatest value at a column, None if there are no points."""
    return max(list(values_of(question, shape, column)), default=None)


def nth(question, shape, index):
    """The point at an index, IN LINE."""
    if index < 0 or index >= many_of(shape):
        raise NoPoint(index)
    return _points_from(question, shape, index, index + 1)[0]


def index_of(question, shape, point):
    """The index of a point IN LINE, None if the SHAPE has it not."""
    less, there = _ahead_in(question, shape, point)
    return less if there else None


def before(question, shape, point):
    """How many points stand ahead of a point IN LINE, whether the SHAPE has it or not."""
    less, there = _ahead_in(question, shape, point)
    return less


def pages(shape, many):
    """How many pages of so many points there are."""
    return (many_of(shape) + many - 1) // many


def page(question, shape, many, index):
    """The list of the points of a page, IN LINE."""
    if index < 0 or index >= pages(shape, many):
        raise NoPoint(index)
    return _points_from(question, shape, index * many, min((index + 1) * many, many_of(shape)))


def _count(shape, turns, times, counts):
    """Adds how many points have each value at the last of some turns, of so many ways to choose all else."""
    index = turns[0]
    for place, branch in enumerate(shape):
        if place != index:
            times = times * choices_many((branch,))
    for value, below in shape[index]:
        if len(turns) > 1:
            _count(below, turns[1:], times, counts)
        else:
            counts[value] = counts.get(value, 0) + times * choices_many(below)


def _points_from(question, shape, first, last):
    """The list of the points from one index up to another one, IN LINE, all of which there are."""
    places = places_in_line(question)
    sized = _sized(shape)
    rows = [_row_at(sized, index) for index in range(first, last)]
    return [tuple([row[place] for place in places]) for row in rows]


def _sized(shape):
    """For each BRANCH (ends, values, below): how many ways to choose there are up to and with each of its values."""
    sized = []
    for branch in shape:
        ends = []
        for value, below in branch:
            ends.append((ends[-1] if ends != [] else 0) + choices_many(below))
        sized.append((tuple(ends), [value for value, below in branch], [_sized(below) for value, below in branch]))
    return sized


def _row_at(sized, index):
    """The row in the order of the LINE at an index."""
    row = ()
    # The last one of the siblings changes first.
    for ends, values, below in reversed(sized):
        index, rest = divmod(index, ends[-1])
        place = many_below(ends, rest + 1)
        start = ends[place - 1] if place > 0 else 0
        row = (values[place],) + _row_at(below[place], rest - start) + row
    return row


def _ahead_in(question, shape, point):
    """How many points stand ahead of a point IN LINE, and whether it is one of them."""
    if shape is None:
        return 0, False
    forest = forest_of(question)
    named = {column: value for column, value in zip(question[0], point)}
    return _ahead(forest, forest[None], shape, named)


def _ahead(forest, columns, shape, named):
    """How many ways to choose for siblings stand ahead of the values that are named, and whether these are one."""
    less, there = 0, True
    for column, branch in zip(columns, shape):
        ahead = [below for value, below in branch if value < named[column]]
        here = [below for value, below in branch if value == named[column]]
        its, same = sum([choices_many(below) for below in ahead]), False
        if here != []:
            within, same = _ahead(forest, forest[column], here[0], named)
            its = its + within
        # Each choice that stands ahead by an earlier sibling goes with all of this one's.
        less = less * choices_many((branch,)) + (its if there else 0)
        there = there and same
    return less, there
