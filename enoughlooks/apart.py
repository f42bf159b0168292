"""Points of which no two lie in one box, as many as the fewest boxes."""

from enoughlooks.boxes import boxes_at
from enoughlooks.forests import any_below, joined
from enoughlooks.judge import View
from enoughlooks.least import steps
from enoughlooks.looks import layout
from enoughlooks.questions import is_point


def apart_points(question, tables):
    """The ascending list of LEAST POINTS that are APART."""
    view = View(question, tables)
    choices, answer = _choices(view, view.roots, ())
    return sorted([tuple([choice[column] for column in question[0]]) for choice in choices])


def is_apart(question, tables, thing):
    """Whether a value is a list or tuple of POINTS that are APART."""
    if not isinstance(thing, (list, tuple)) or not all([is_point(question, point) for point in thing]):
        return False
    laid = layout(question, tables)
    seen = {}
    for point in thing:
        boxes = boxes_at(question, laid, point)
        # Just an ANSWER is held by no box; so two of the same point share one.
        if boxes == [] or any([box in seen for box in boxes]):
            return False
        for box in boxes:
            seen[box] = True
    return True


def common_box(question, tables, one, other):
    """The first TRUE BOX that HOLDS two POINTS, None if there is none."""
    laid = layout(question, tables)
    its = boxes_at(question, laid, other)
    shared = [box for box in boxes_at(question, laid, one) if box in its]
    return shared[0] if shared != [] else None


def _choices(view, columns, prefix):
    """For siblings: the list of points, dicts from the columns to values, and an ANSWER, None if there is none."""
    told = [_level_choices(view, column, prefix) for column in columns]
    empty = [choices for choices, answer in told if answer is None]
    answers = joined([answer for choices, answer in told if answer is not None])
    if empty == []:
        return [joined([answers, choice]) for choices, answer in told for choice in choices], answers
    # A box is one of a single sibling, so the first points of all, the second ones and so on may share a point.
    many = min([len(choices) for choices in empty])
    return [joined([answers] + [choices[place] for choices in empty]) for place in range(many)], None


def _level_choices(view, column, prefix):
    """The same for one column and all below it."""
    told, answer = [], None
    for x, gap in steps(view, column, prefix):
        if gap is not None or view.bar_at(column, prefix + (x,)) is not None:
            value = _below_all(view, column, prefix) if x is None else x
            told.append(joined([{column: value}, any_below(view.children, view.bounds, column)]))
            continue
        choices, found = _choices(view, view.children[column], prefix + (x,))
        told.extend([joined([{column: x}, choice]) for choice in choices])
        if found is not None and answer is None:
            answer = joined([{column: x}, found])
    return told, answer


def _below_all(view, column, prefix):
    """An integer of a range without low, below all that is there behind a prefix."""
    last = view.bounds[column][1]
    ends = [] if last is None else [last + 1]
    for atom in view.through[column]:
        ends.extend(view.behind[atom][prefix][:1])
    return min(ends, default=0) - 1
