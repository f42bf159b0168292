"""Shapes: many points told by few places, laid out along the forest; and shapes put together."""

from enoughlooks.errors import NoShape
from enoughlooks.forests import children_of, end_of, forest_of, path_of, roots_of
from enoughlooks.forms import is_integer, is_tuple_of
from enoughlooks.questions import is_between, lets


def line_of(question):
    """The LINE of a question: its columns depth first."""
    forest = forest_of(question)
    return _line_below(forest, forest[None])


def is_shape(question, thing):
    """Whether a value is None, or has the form of a SHAPE of the question."""
    forest = forest_of(question)
    return thing is None or _are_branches(question, forest, forest[None], thing)


def places_many(shape):
    """The number of PLACES of a SHAPE."""
    if shape is None:
        return 0
    return sum([1 + places_many(below) for branch in shape for value, below in branch])


def choices_many(shape):
    """How many points a SHAPE has: the number of all ways to choose."""
    if shape is None:
        return 0
    many = 1
    for branch in shape:
        many = many * sum([choices_many(below) for value, below in branch])
    return many


def shape_of(question, points):
    """The SHAPE that has just the points of a LOT."""
    if len(points) == 0:
        return None
    forest = forest_of(question)
    shape = _shape_below(question[0], forest, forest[None], points)
    # Each shape that has these points has all places of this one, which has them, too; so it is this one or none.
    if choices_many(shape) != len(points):
        raise NoShape()
    return shape


def points_of(question, shape):
    """The LOT of the points that a SHAPE has."""
    if shape is None:
        return ()
    places = places_in_line(question)
    return tuple(sorted([tuple([row[place] for place in places]) for row in _rows_of(shape)]))


def is_in(question, shape, point):
    """Whether a SHAPE has a point."""
    forest = forest_of(question)
    named = {column: value for column, value in zip(question[0], point)}
    return shape is not None and _has(forest, forest[None], shape, named)


def meet(one, other):
    """The SHAPE of the points that two SHAPES of one question both have."""
    if one is None or other is None:
        return None
    branches = tuple([_branch_met(mine, its) for mine, its in zip(one, other)])
    return None if () in branches else branches


def cut(question, shape, column, low, high):
    """The SHAPE of the points of one whose values at a column are from low to high."""
    return _cut(shape, turns_to(question, column), low, high)


def without_not(question, shape, atom, rows):
    """The SHAPE of the points of one whose values at the WAY of a "not" atom are none of these ROWS."""
    return _without(shape, turns_to(question, end_of(question, atom)), rows)


def is_within(one, other):
    """Whether another SHAPE has all points of one."""
    if one is None or other is None:
        return one is None
    return all([_is_branch_within(mine, its) for mine, its in zip(one, other)])


def places_in_line(question):
    """For each column its place in the LINE."""
    line = line_of(question)
    return tuple([line.index(column) for column in question[0]])


def turns_to(question, column):
    """For each column of a PATH its place among its siblings."""
    path = path_of(question, column)
    groups = [roots_of(question)] + [children_of(question, above) for above in path[:-1]]
    return tuple([group.index(each) for group, each in zip(groups, path)])


def _line_below(forest, columns):
    line = ()
    for column in columns:
        line = line + (column,) + _line_below(forest, forest[column])
    return line


def _are_branches(question, forest, columns, thing):
    """Whether a value has the form of a SHAPE, not None, of siblings."""
    if not is_tuple_of(thing, len(columns)):
        return False
    return all([_is_branch(question, forest, column, branch) for column, branch in zip(columns, thing)])


def _is_branch(question, forest, column, thing):
    """Whether a value has the form of a BRANCH of a column."""
    if not isinstance(thing, tuple) or thing == ():
        return False
    if not all([is_tuple_of(place, 2) and is_integer(place[0]) for place in thing]):
        return False
    if not all([one[0] < other[0] for one, other in zip(thing, thing[1:])]):
        return False
    below = forest[column]
    return all([lets(question, column, value) and _are_branches(question, forest, below, its) for value, its in thing])


def _shape_below(columns, forest, siblings, points):
    """The places of siblings that some points need, at least one."""
    branches = []
    for column in siblings:
        at = columns.index(column)
        behind = {}
        for point in points:
            behind.setdefault(point[at], []).append(point)
        below = forest[column]
        branch = [(value, _shape_below(columns, forest, below, behind[value])) for value in sorted(behind)]
        branches.append(tuple(branch))
    return tuple(branches)


def _rows_of(shape):
    """The list of the points of a SHAPE, not None, as rows in the order of the LINE."""
    rows = [()]
    for branch in shape:
        ends = [(value,) + row for value, below in branch for row in _rows_of(below)]
        rows = [row + end for row in rows for end in ends]
    return rows


def _has(forest, columns, shape, named):
    """Whether a SHAPE of siblings has the values that are named."""
    for column, branch in zip(columns, shape):
        places = [below for value, below in branch if value == named[column]]
        if places == [] or not _has(forest, forest[column], places[0], named):
            return False
    return True


def _branch_met(one, other):
    """The BRANCH of what two BRANCHES have in common."""
    its = {value: below for value, below in other}
    met = [(value, meet(below, its[value])) for value, below in one if value in its]
    return tuple([(value, below) for value, below in met if below is not None])


def _cut(shape, turns, low, high):
    if shape is None:
        return None
    if len(turns) > 1:
        told = [(value, _cut(below, turns[1:], low, high)) for value, below in shape[turns[0]]]
    else:
        told = [(value, below) for value, below in shape[turns[0]] if is_between(low, value, high)]
    return _with_branch(shape, turns[0], told)


def _without(shape, turns, rows):
    if shape is None:
        return None
    ends = {}
    for row in rows:
        ends.setdefault(row[0], []).append(row[1:])
    told = []
    for value, below in shape[turns[0]]:
        if value not in ends:
            told.append((value, below))
        elif len(turns) > 1:
            told.append((value, _without(below, turns[1:], ends[value])))
    return _with_branch(shape, turns[0], told)


def _with_branch(shape, index, told):
    """A SHAPE with another BRANCH, of the places told whose shape is not None; None if there is none."""
    branch = tuple([(value, below) for value, below in told if below is not None])
    return None if branch == () else shape[:index] + (branch,) + shape[index + 1:]


def _is_branch_within(one, other):
    its = {value: below for value, below in other}
    return all([value in its and is_within(below, its[value]) for value, below in one])
