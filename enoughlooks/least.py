"""The fewest boxes that any paper must have, and the paper with just so many."""

from enoughlooks.judge import View
from enoughlooks.papers import level_size, level_tells, size_of


def least(question, tables):
    """LEAST: the least number of boxes of a COVER."""
    return size_of(least_paper(question, tables))


def least_paper(question, tables):
    """The PAPER with the fewest boxes."""
    view = View(question, tables)
    return _paper(view, view.roots, ())


def least_below(question, tables, column, prefix):
    """For how many boxes the LEVEL of a column behind a prefix stands, and whether it TELLS ANSWERS."""
    level = _level(View(question, tables), column, prefix)
    return level_size(level), level_tells(level)


def steps(view, column, prefix):
    """The integers of which a LEVEL must tell, each with the gap that is taken there, None if it is FULL."""
    x, last = view.bounds[column]
    taken = []
    while x is None or last is None or x <= last:
        gap = view.gap_from(column, prefix, x)
        taken.append((x, gap))
        if gap is None:
            x += 1
            continue
        # From each integer that nothing tells of on, the gap that goes farthest is taken.
        x = gap[2]
        if x is None:
            break
    return taken


def _paper(view, columns, prefix):
    """The PAPER of siblings behind a prefix."""
    levels = tuple([_level(view, column, prefix) for column in columns])
    empty = [(level_size(level), index) for index, level in enumerate(levels) if not level_tells(level)]
    if empty == []:
        return "all", levels
    size, index = min(empty)
    return "one", index, levels[index]


def _level(view, column, prefix):
    """The LEVEL of a column behind a prefix."""
    taken = steps(view, column, prefix)
    values = [(x, _told(view, column, prefix + (x,))) for x, gap in taken if gap is None]
    return tuple([gap for x, gap in taken if gap is not None]), tuple(values)


def _told(view, column, row):
    """What is told of the last value of a row, which is FULL."""
    atom = view.bar_at(column, row)
    return _paper(view, view.children[column], row) if atom is None else ("row", atom)
