"""Papers: the boxes that show that nothing else is an answer, laid out along the forest, and the shape they tell."""


def boxes_in(paper):
    """The tuple of all the boxes that a PAPER stands for."""
    return tuple(_boxes_behind(paper, ()))


def size_of(paper):
    """For how many boxes a PAPER stands."""
    return sum([level_size(level) for level in _levels_of(paper)])


def parts_of(paper):
    """How many LEVELS, gaps and values there are in a PAPER."""
    many = 0
    for gaps, values in _levels_of(paper):
        below = [what for value, what in values if what[0] != "row"]
        many += 1 + len(gaps) + len(values) + sum([parts_of(what) for what in below])
    return many


def shape_told(paper):
    """The SHAPE that a PAPER tells, None if it does not tell answers."""
    if paper[0] == "one":
        return None
    branches = [_branch_told(level) for level in paper[1]]
    return None if () in branches else tuple(branches)


def level_size(level):
    """For how many boxes a LEVEL stands."""
    gaps, values = level
    return len(gaps) + sum([1 if what[0] == "row" else size_of(what) for value, what in values])


def level_tells(level):
    """Whether a LEVEL TELLS ANSWERS."""
    return _branch_told(level) != ()


def _levels_of(paper):
    """The LEVELS that stand in a PAPER."""
    return paper[1] if paper[0] == "all" else paper[2:]


def _branch_told(level):
    """The BRANCH of the values of a LEVEL that tell answers."""
    told = [(value, shape_told(what)) for value, what in level[1] if what[0] != "row"]
    return tuple([(value, shape) for value, shape in told if shape is not None])


def _boxes_behind(paper, prefix):
    """The list of the boxes that a PAPER stands for behind a prefix."""
    boxes = []
    for gaps, values in _levels_of(paper):
        boxes.extend([("gap", atom, prefix, low, high) for atom, low, high in gaps])
        for value, what in values:
            row = prefix + (value,)
            boxes.extend([("row", what[1], row)] if what[0] == "row" else _boxes_behind(what, row))
    return boxes
