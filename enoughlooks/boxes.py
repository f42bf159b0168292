"""The boxes without answers that looks tell, and what boxes leave of all points."""

from enoughlooks.forests import children_of, on_way, roots_of, way_of, way_rows
from enoughlooks.forms import is_bound, is_integer, is_row, is_tuple_of
from enoughlooks.gaps import gap_at, gaps_of, integers_in, is_within, many_in, runs_left, values_behind
from enoughlooks.looks import is_atom_index, is_prefix, layout
from enoughlooks.questions import is_between, part_of, range_of

MOST_PLACES = 2000


def is_true_box(question, tables, thing):
    """Whether a value is a TRUE BOX."""
    if not _is_box(thing) or not is_atom_index(question, thing[1]):
        return False
    return thing in _boxes_of(question, tables, thing[1])


def true_boxes(question, tables):
    """The list of all TRUE BOXES: by atoms, then by prefixes or rows, then by lows, None first."""
    return [box for atom in range(len(question[1])) for box in _boxes_of(question, tables, atom)]


def holds(question, box, point):
    """Whether a BOX HOLDS a POINT."""
    row = on_way(question, box[1], part_of(question, box[1], point))
    prefix, low, high = as_gap(box)
    return row[:len(prefix)] == prefix and is_within(low, row[len(prefix)], high)


def box_at(question, tables, point):
    """The first TRUE BOX that HOLDS a POINT, None if the point is an ANSWER."""
    boxes = boxes_at(question, layout(question, tables), point)
    return boxes[0] if boxes != [] else None


def boxes_at(question, laid, point):
    """The list of all TRUE BOXES, by a layout, that HOLD a POINT, in order."""
    found = []
    for atom, (word, name, columns) in enumerate(question[1]):
        row = on_way(question, atom, part_of(question, atom, point))
        if word == "not":
            found.extend([("row", atom, row)] if row in laid[atom] else [])
            continue
        # Behind the first value that is not there no prefix is, so an atom has one box at most.
        for size, value in enumerate(row):
            gap = gap_at(laid[atom][row[:size]], value)
            if gap is not None:
                found.append(("gap", atom, row[:size]) + gap)
                break
    return found


def as_gap(box):
    """The prefix of a BOX, and the bounds between which it holds the next value."""
    if box[0] == "gap":
        return box[2:]
    row = box[2]
    return row[:-1], row[-1] - 1, row[-1] + 1


def left_by(question, boxes):
    """What the POINTS are that no BOX HOLDS: ("shape", SHAPE), or ("many",)."""
    return _left(question, boxes, MOST_PLACES)


def is_cover(question, tables, thing):
    """Whether a value is a tuple of TRUE BOXES, no two the same, that are a COVER."""
    if not isinstance(thing, tuple) or not all([_is_box(box) for box in thing]):
        return False
    known = {box: True for box in true_boxes(question, tables)}
    if not all([box in known for box in thing]) or len(set(thing)) < len(thing):
        return False
    # All true boxes leave just the answers, and each place of these is a beginning of a row: there are no more.
    most = sum([len(columns) * len(tables[name][1]) for word, name, columns in question[1]])
    return _left(question, thing, most) == _left(question, list(known), most)


class Leavings:
    """The points that boxes leave, told column by column, as far as they have at most so many places."""

    def __init__(self, question, boxes, most):
        self.most = most
        self.children = {column: children_of(question, column) for column in question[0]}
        self.bounds = {column: range_of(question, column) for column in question[0]}
        self.gaps = {}
        self.begun = {}
        self.free = {}
        ways = [way_of(question, atom) for atom in range(len(question[1]))]
        for box in boxes:
            self._note(ways[box[1]], as_gap(box))

    def siblings(self, columns, prefix):
        """What is left of siblings behind a prefix: (places, SHAPE), (0, None) of nothing, (None, None) of too many."""
        told = [self._branch(column, prefix) for column in columns]
        # What siblings leave is all couples of what each leaves, so nothing of one is nothing of all.
        if (0, ()) in told:
            return 0, None
        total = _sum_of([places for places, branch in told])
        if total is None or total > self.most:
            return None, None
        return total, tuple([branch for places, branch in told])

    def _note(self, way, gap):
        prefix, low, high = gap
        self.gaps.setdefault((way[len(prefix)], prefix), []).append((low, high))
        for size, value in enumerate(prefix):
            begun = self.begun.setdefault((way[size], prefix[:size]), {})
            begun[value] = True

    def _branch(self, column, prefix):
        """What is left at a column behind a prefix: (places, BRANCH), (0, ()) of nothing, (None, ()) of too many."""
        low, high = self.bounds[column]
        runs = runs_left(low, high, self.gaps.get((column, prefix), []))
        begun = self.begun.get((column, prefix), {})
        if not self._can_list(column, runs, begun):
            return None, ()
        total = 0
        branch = []
        for value in integers_in(runs):
            if value in begun:
                places, shape = self.siblings(self.children[column], prefix + (value,))
            else:
                places, shape = self._free_below(column)
            if shape is not None:
                branch.append((value, shape))
                total += 1 + places
            if places is None or total > self.most:
                return None, ()
        return total, tuple(branch)

    def _can_list(self, column, runs, begun):
        """Whether the values of runs behind which there is no box do not have too many places."""
        many = many_in(runs)
        if many is None:
            return False
        plain = many - len([value for value in begun if any([is_between(low, value, high) for low, high in runs])])
        places, shape = self._free_below(column)
        return plain == 0 or places is not None and plain * (1 + places) <= self.most

    def _free_below(self, column):
        """What is left of the children of a column behind a value behind which there is no box."""
        if column not in self.free:
            # Nothing is noted behind None, so it stands for all such prefixes.
            self.free[column] = self.siblings(self.children[column], None)
        return self.free[column]


def _is_box(thing):
    """Whether a value has the form of a BOX, whatever the question."""
    if is_tuple_of(thing, 5):
        word, atom, prefix, low, high = thing
        return word == "gap" and is_integer(atom) and is_prefix(prefix) and is_bound(low) and is_bound(high)
    return is_tuple_of(thing, 3) and thing[0] == "row" and is_integer(thing[1]) and is_row(thing[2])


def _boxes_of(question, tables, atom):
    """The list of the TRUE BOXES of an atom, in order."""
    word, name, columns = question[1][atom]
    rows = way_rows(question, tables, atom)
    if word == "not":
        return [("row", atom, row) for row in rows]
    behind = values_behind(rows)
    prefixes = [prefix for prefix in behind if len(prefix) < len(columns)]
    return [("gap", atom, prefix, low, high) for prefix in prefixes for low, high in gaps_of(behind[prefix])]


def _left(question, boxes, most):
    places, shape = Leavings(question, boxes, most).siblings(roots_of(question), ())
    return ("many",) if places is None else ("shape", shape)


def _sum_of(numbers):
    """The sum, None if one of them is."""
    return None if None in numbers else sum(numbers)
