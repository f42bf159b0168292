"""SHAPES as the document tells them, by all ways to choose; and drawn SHAPES."""

import itertools

from plain_questions import plain_children, plain_lets, plain_shape


def plain_line(question, parent=None):
    """The LINE below a column, of the whole question below None."""
    line = []
    for column in plain_children(question, parent):
        line.extend([column, *plain_line(question, column)])
    return line


def plain_had(question, shape, parent=None):
    """The points that a SHAPE has, as dicts of columns and values."""
    if shape is None:
        return []
    ways = []
    for column, branch in zip(plain_children(question, parent), shape):
        ways.append([{column: value, **below} for value, its in branch for below in plain_had(question, its, column)])
    return [{column: value for part in chosen for column, value in part.items()} for chosen in itertools.product(*ways)]


def plain_had_points(question, shape):
    """The set of the points that a SHAPE has."""
    return {tuple(named[column] for column in question[0]) for named in plain_had(question, shape)}


def in_line(question, points):
    """Points, IN LINE."""
    line = plain_line(question)
    return sorted(points, key=lambda point: [point[question[0].index(column)] for column in line])


def shaped(question, points):
    """The SHAPE that has just these points, None if there are none; "no" if none has."""
    shape = plain_shape(question, sorted(points))
    return shape if plain_had_points(question, shape) == set(points) else "no"


def drawn_shape(draw, question, most=3, top=5):
    """A SHAPE of a question, seldom None."""
    return None if draw.random() < 0.05 else drawn_branches(draw, question, None, most, top)


def drawn_branches(draw, question, parent, most, top):
    branches = []
    for column in plain_children(question, parent):
        offered = [value for value in range(-top, top) if plain_lets(question, column, value)]
        values = sorted(draw.sample(offered, min(draw.randrange(1, most + 1), len(offered))))
        branches.append(tuple((value, drawn_branches(draw, question, column, most, top)) for value in values))
    return tuple(branches)


def like(draw, question, shape, parent=None):
    """A SHAPE with some of the places of another one, and some of its own."""
    if shape is None:
        return None
    branches = []
    for column, branch in zip(plain_children(question, parent), shape):
        kept = {value: like(draw, question, below, column) for value, below in branch if draw.random() < 0.8}
        if not kept or draw.random() < 0.3:
            more = [value for value in range(-5, 5) if plain_lets(question, column, value)]
            kept[draw.choice(more)] = drawn_branches(draw, question, column, 2, 5)
        branches.append(tuple(sorted(kept.items())))
    return tuple(branches)
