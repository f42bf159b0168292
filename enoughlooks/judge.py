"""The judge, who reads a paper in one pass, and the paper that spares nothing."""

from enoughlooks.forests import children_of, ending, roots_of, through
from enoughlooks.forms import is_bound, is_from, is_integer, is_tuple_of
from enoughlooks.gaps import farthest, gap_at, gap_place, gaps_of, holds_some, integers_in, many_in, runs_left
from enoughlooks.looks import layout
from enoughlooks.papers import level_tells
from enoughlooks.questions import is_between, range_of


class View:
    """A nested question on tables, laid out for going down the forest, column by column."""

    def __init__(self, question, tables):
        columns = question[0]
        self.roots = roots_of(question)
        self.children = {column: children_of(question, column) for column in columns}
        self.bounds = {column: range_of(question, column) for column in columns}
        self.through = {column: through(question, column) for column in columns}
        self.ending = {column: ending(question, column) for column in columns}
        self.behind = layout(question, tables)

    def gaps_at(self, column, prefix):
        """All gaps (atom, low, high) that hold an integer of the range, in the order in which they stand in a LEVEL."""
        first, last = self.bounds[column]
        told = [(atom, gaps_of(self.behind[atom][prefix])) for atom in self.through[column]]
        gaps = [(atom, low, high) for atom, its in told for low, high in its if holds_some(low, high, first, last)]
        return sorted(gaps, key=gap_place)

    def gap_from(self, column, prefix, x):
        """The gap (atom, low, high) that holds x, or the begin for None, and goes farthest; None if there is none."""
        told = [(atom, gap_at(self.behind[atom][prefix], x)) for atom in self.through[column]]
        return farthest([(atom,) + gap for atom, gap in told if gap is not None])

    def is_full(self, column, row):
        """Whether the last value of a row is FULL behind the others."""
        low, high = self.bounds[column]
        return is_between(low, row[-1], high) and all([row in self.behind[atom] for atom in self.through[column]])

    def full_rows(self, column, prefix):
        """The ascending rows prefix + (value,) of the FULL values."""
        rows = [prefix + (value,) for value in self.behind[self.through[column][0]][prefix]]
        return [row for row in rows if self.is_full(column, row)]

    def bar_at(self, column, row):
        """The least "not" atom whose END the column is, and that has the row; None if there is none."""
        atoms = [atom for atom in self.ending[column] if row in self.behind[atom]]
        return atoms[0] if atoms != [] else None


def is_paper(question, tables, thing):
    """Whether a value is a PAPER of the question that shows its ANSWERS."""
    view = View(question, tables)
    return _is_paper_of(view, view.roots, (), thing)


def plain_paper(question, tables):
    """The PAPER with all gaps, and all siblings."""
    view = View(question, tables)
    return _plain_paper_of(view, view.roots, ())


def _is_paper_of(view, columns, prefix, thing):
    """Whether a value is a PAPER of siblings behind a prefix, as the judge takes it."""
    if is_tuple_of(thing, 2):
        word, levels = thing
        if word != "all" or not is_tuple_of(levels, len(columns)):
            return False
        return all([_is_level(view, column, prefix, level) for column, level in zip(columns, levels)])
    if not is_tuple_of(thing, 3):
        return False
    word, index, level = thing
    if word != "one" or not is_from(index, 0) or index >= len(columns):
        return False
    return _is_level(view, columns[index], prefix, level) and not level_tells(level)


def _is_level(view, column, prefix, thing):
    """Whether a value is a LEVEL of a column behind a prefix, as the judge takes it."""
    if not is_tuple_of(thing, 2):
        return False
    gaps, values = thing
    if not _are_gaps(view, column, prefix, gaps) or not _are_couples(values):
        return False
    low, high = view.bounds[column]
    runs = runs_left(low, high, [gap[1:] for gap in gaps])
    # The number goes first: there may be far too many integers to list them.
    if many_in(runs) != len(values) or integers_in(runs) != [value for value, what in values]:
        return False
    return all([_is_told(view, column, prefix + (value,), what) for value, what in values])


def _are_gaps(view, column, prefix, thing):
    """Whether a value is a tuple of some of the gaps that stand there, in their order."""
    if not isinstance(thing, tuple) or not all([_is_gap(gap) for gap in thing]):
        return False
    places = {gap: place for place, gap in enumerate(view.gaps_at(column, prefix))}
    if not all([gap in places for gap in thing]):
        return False
    return all([places[one] < places[other] for one, other in zip(thing, thing[1:])])


def _is_gap(thing):
    return is_tuple_of(thing, 3) and is_integer(thing[0]) and is_bound(thing[1]) and is_bound(thing[2])


def _are_couples(thing):
    """Whether a value is a tuple of couples of an integer and anything."""
    return isinstance(thing, tuple) and all([is_tuple_of(each, 2) and is_integer(each[0]) for each in thing])


def _is_told(view, column, row, thing):
    """Whether a value tells of the last value of a row, as the judge takes it."""
    if is_tuple_of(thing, 2) and thing[0] == "row":
        return is_integer(thing[1]) and thing[1] in view.ending[column] and row in view.behind[thing[1]]
    if not view.is_full(column, row) or view.bar_at(column, row) is not None:
        return False
    return _is_paper_of(view, view.children[column], row, thing)


def _plain_paper_of(view, columns, prefix):
    return "all", tuple([_plain_level(view, column, prefix) for column in columns])


def _plain_level(view, column, prefix):
    told = [(row[-1], _plain_told(view, column, row)) for row in view.full_rows(column, prefix)]
    return tuple(view.gaps_at(column, prefix)), tuple(told)


def _plain_told(view, column, row):
    atom = view.bar_at(column, row)
    return _plain_paper_of(view, view.children[column], row) if atom is None else ("row", atom)
