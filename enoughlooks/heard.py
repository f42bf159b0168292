"""What news tells of a question: put in and taken out told look by told look, with the points that it leaves loose."""

from enoughlooks.boxes import as_gap
from enoughlooks.forests import any_below, forest_of, joined, way_of
from enoughlooks.forms import is_tuple_of
from enoughlooks.gaps import integers_in, runs_left
from enoughlooks.looks import box_of
from enoughlooks.questions import is_between, range_of


def rows_there(question, pair):
    """The rows, in the order of the WAY, that a TOLD LOOK tells to be there: a list of two at most."""
    look, its = pair
    if is_tuple_of(look, 2):
        return [look[1]] if its == ("there",) else []
    atom, prefix, x = look
    if len(prefix) + 1 < len(question[1][atom][2]):
        return []
    return [prefix + (end,) for end in ends_told(pair)]


def ends_told(pair):
    """The values that a TOLD LOOK at a "has" atom tells to be there behind its prefix."""
    look, its = pair
    return [look[2]] if its == ("there",) else [end for end in its[1:] if end is not None]


def rows_away(pair):
    """The rows that a TOLD LOOK at a "not" atom tells to be away: a list of one at most."""
    look, its = pair
    return [look[1]] if its == ("away",) else []


class Heard:
    """NEWS of a question, laid out along its forest."""

    def __init__(self, question, news):
        self._question = question
        self._forest = forest_of(question)
        self._bounds = {column: range_of(question, column) for column in question[0]}
        self._ways = [way_of(question, atom) for atom in range(len(question[1]))]
        self._ended = {column: [] for column in question[0]}
        for atom, way in enumerate(self._ways):
            self._ended[way[-1]].append(atom)
        # How often each fact was told; a fact is a box, or ("sure", atom, row) of a row that makes ANSWERS SURE.
        self._told = {}
        # By column and prefix: the gaps of the boxes there, and the values behind which more was told.
        self._gaps = {}
        self._begun = {}
        self._ways_left = {}
        for pair in news:
            self.put(pair)

    def put(self, pair):
        """Puts a TOLD LOOK in."""
        for fact in self._facts_of(pair):
            self._told[fact] = self._told.get(fact, 0) + 1
            if self._told[fact] == 1:
                self._enter(fact)

    def take(self, pair):
        """Takes a TOLD LOOK out that was put in."""
        for fact in self._facts_of(pair):
            self._told[fact] -= 1
            if self._told[fact] == 0:
                self._leave(fact)

    def loose(self):
        """A POINT that no box that was told HOLDS, and that is not SURE; None if there is none."""
        left, unsure = self._siblings(self._forest[None], ())
        return None if unsure is None else tuple([unsure[column] for column in self._question[0]])

    def is_sure_at(self, atom, row):
        """Whether the row of an ATOM, in the order of its WAY, was told as ANSWERS need it."""
        return self._told.get(("sure", atom, row), 0) > 0

    def _facts_of(self, pair):
        box = box_of(pair[0], pair[1])
        atom = pair[0][0]
        rows = rows_away(pair) if self._question[1][atom][0] == "not" else rows_there(self._question, pair)
        return ([] if box is None else [box]) + [("sure", atom, row) for row in rows]

    def _enter(self, fact):
        way = self._ways[fact[1]]
        row = fact[2]
        if fact[0] != "sure":
            prefix, low, high = as_gap(fact)
            self._gaps.setdefault((way[len(prefix)], prefix), {})[fact] = (low, high)
            row = prefix
        for size, value in enumerate(row):
            # It stays so when the fact is taken out: what is begun may be more than need be.
            self._begun.setdefault((way[size], row[:size]), {})[value] = True
        self._unsettle(fact)

    def _leave(self, fact):
        if fact[0] != "sure":
            prefix = as_gap(fact)[0]
            del self._gaps[(self._ways[fact[1]][len(prefix)], prefix)][fact]
        self._unsettle(fact)

    def _unsettle(self, fact):
        """Forgets what was found behind all beginnings of what a fact tells of."""
        for size, column in enumerate(self._ways[fact[1]]):
            self._ways_left.pop((column, fact[2][:size]), None)

    def _siblings(self, columns, prefix):
        """Of siblings behind a prefix: the values of a way that is left, and of one that is not SURE, None of none."""
        found = [self._column(column, prefix) for column in columns]
        lefts = [left for left, unsure in found]
        if None in lefts:
            return None, None
        loose = [unsure for left, unsure in found if unsure is not None]
        return joined(lefts), joined(lefts + loose[:1]) if loose != [] else None

    def _column(self, column, prefix):
        """The same of one column and all below it."""
        place = (column, prefix)
        if place not in self._ways_left:
            low, high = self._bounds[column]
            runs = runs_left(low, high, list(self._gaps.get(place, {}).values()))
            begun = self._begun.get(place, {})
            fresh = _first_other(runs, begun)
            if fresh is None:
                self._ways_left[place] = self._among(column, prefix, integers_in(runs))
            else:
                # Behind it nothing was told: no box holds it, and no row of it makes it SURE.
                way = joined([{column: fresh}, any_below(self._forest, self._bounds, column)])
                self._ways_left[place] = (way, way)
        return self._ways_left[place]

    def _among(self, column, prefix, values):
        left, unsure = None, None
        for value in values:
            row = prefix + (value,)
            ways = self._siblings(self._forest[column], row)
            if ways[0] is None:
                continue
            left = joined([{column: value}, ways[0]])
            if not all([self.is_sure_at(atom, row) for atom in self._ended[column]]):
                return left, left
            if ways[1] is not None:
                unsure = joined([{column: value}, ways[1]])
        return left, unsure


def _first_other(runs, values):
    """An integer of runs that is none of some values, None if there is none."""
    for low, high in runs:
        # A run without low is gone through downward.
        start, step = (high, -1) if low is None and high is not None else (low or 0, 1)
        for many in range(len(values) + 1):
            x = start + step * many
            if not is_between(low, x, high):
                break
            if x not in values:
                return x
    return None
