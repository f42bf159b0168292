"""The plain meaning of questions: the answers, by going through all points that could be some."""

from enoughlooks.errors import TooMany
from enoughlooks.questions import atoms_of, lets, part_of

MOST_POINTS = 20000


def candidates(question, tables, column):
    """The LOT of the integers that the RANGE of a column lets, and each of its "has" atoms has there."""
    had = [atom for atom in atoms_of(question, column) if question[1][atom][0] == "has"]
    seen = [_values_at(question, tables, atom, column) for atom in had]
    offered = [value for value in sorted(seen[0]) if lets(question, column, value)]
    return tuple([value for value in offered if all([value in values for values in seen])])


def is_answer(question, tables, point):
    """Whether a POINT is an ANSWER."""
    return _agrees(question, [tables[name][1] for word, name, columns in question[1]], point)


def answers(question, tables):
    """The ascending list of all ANSWERS."""
    offered = [candidates(question, tables, column) for column in question[0]]
    many = 1
    for values in offered:
        many = many * len(values)
    if many > MOST_POINTS:
        raise TooMany(MOST_POINTS)
    # Ahead of an empty column the points of the others could be endlessly more than the bound.
    if many == 0:
        return []
    rows = [{row: True for row in tables[name][1]} for word, name, columns in question[1]]
    points = [()]
    for values in offered:
        points = [point + (value,) for point in points for value in values]
    return [point for point in points if _agrees(question, rows, point)]


def _values_at(question, tables, atom, column):
    """The values at a column of an ATOM in the rows of its table, as keys."""
    word, name, columns = question[1][atom]
    place = columns.index(column)
    return {row[place]: True for row in tables[name][1]}


def _agrees(question, rows, point):
    """Whether each "has" atom has its part of a POINT among its rows, and no "not" atom has its own."""
    words = [word for word, name, columns in question[1]]
    return all([(part_of(question, atom, point) in rows[atom]) == (word == "has") for atom, word in enumerate(words)])
