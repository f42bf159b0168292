"""News: looks with what they tell, which of it is enough to know the answers, and looks that make it so."""

from enoughlooks.boxes import boxes_at
from enoughlooks.forests import on_way
from enoughlooks.forms import is_bound, is_tuple_of
from enoughlooks.heard import Heard, rows_away, rows_there
from enoughlooks.least import least_paper
from enoughlooks.looks import box_of, is_look_by, layout, told_by
from enoughlooks.papers import boxes_in
from enoughlooks.questions import part_of


def news_of(question, tables, looks):
    """The tuple of the TOLD LOOKS of these LOOKS."""
    laid = layout(question, tables)
    return tuple([(look, told_by(laid, look)) for look in looks])


def are_news(question, tables, thing):
    """Whether a value is NEWS that is true on TABLES."""
    if not isinstance(thing, (list, tuple)):
        return False
    laid = layout(question, tables)
    return all([is_true_on(question, laid, pair) for pair in thing])


def is_true_on(question, laid, thing):
    """Whether a value is a TOLD LOOK, by a layout."""
    if not is_tuple_of(thing, 2) or not is_look_by(question, laid, thing[0]):
        return False
    look, its = thing
    # A truth equals 1 or 0, but is no end of a gap.
    return its == told_by(laid, look) and all([isinstance(part, str) or is_bound(part) for part in its])


def told_rows(question, news, atom):
    """The LOT of the ROWS, in the order of the WAY, that are TOLD THERE, or that told so at a "not" atom."""
    return _lot([row for pair in news if pair[0][0] == atom for row in rows_there(question, pair)])


def away_rows(question, news, atom):
    """The LOT of the rows that a "not" atom was told not to have."""
    return _lot([row for pair in news if pair[0][0] == atom for row in rows_away(pair)])


def told_boxes(news):
    """The tuple of all boxes that news tells, each once."""
    boxes = [box_of(look, its) for look, its in news]
    return tuple(list({box: True for box in boxes if box is not None}))


def look_for(box):
    """A LOOK that tells a TRUE BOX wherever it is one."""
    if box[0] == "row":
        return box[1:]
    word, atom, prefix, low, high = box
    return atom, prefix, None if low is None else low + 1


def is_sure(question, news, point):
    """Whether a POINT is SURE by NEWS."""
    return unsure_atoms(question, Heard(question, news), point) == []


def is_enough(question, news):
    """Whether NEWS is ENOUGH."""
    return loose_point(question, news) is None


def loose_point(question, news):
    """A POINT that no box that is told HOLDS, and that is not SURE; None if there is none."""
    return Heard(question, news).loose()


def kept_news(question, news):
    """The ascending tuple of the indexes that are left of NEWS that is ENOUGH, the last ones left out first."""
    heard = Heard(question, news)
    kept = []
    for index in reversed(range(len(news))):
        heard.take(news[index])
        if heard.loose() is not None:
            heard.put(news[index])
            kept.append(index)
    return tuple(sorted(kept))


def looks_more(question, tables, news):
    """The list of LOOKS that make NEWS ENOUGH, each of which tells something that was not told ahead of it."""
    laid = layout(question, tables)
    heard = Heard(question, news)
    looks = []
    point = heard.loose()
    while point is not None:
        for look in _looks_at(question, laid, heard, point):
            heard.put((look, told_by(laid, look)))
            looks.append(look)
        point = heard.loose()
    return looks


def enough_looks(question, tables):
    """A list of LOOKS that are ENOUGH: first those of the fewest boxes."""
    looks = [look_for(box) for box in boxes_in(least_paper(question, tables))]
    return looks + looks_more(question, tables, news_of(question, tables, looks))


def unsure_atoms(question, heard, point):
    """The list of the ATOMS whose part of a POINT was not told as ANSWERS need it."""
    rows = [on_way(question, atom, part_of(question, atom, point)) for atom in range(len(question[1]))]
    return [atom for atom, row in enumerate(rows) if not heard.is_sure_at(atom, row)]


def _looks_at(question, laid, heard, point):
    """The LOOKS after which a loose POINT is so no more."""
    boxes = boxes_at(question, laid, point)
    if boxes != []:
        return [look_for(boxes[0])]
    looks = []
    for atom in unsure_atoms(question, heard, point):
        row = on_way(question, atom, part_of(question, atom, point))
        looks.append((atom, row) if question[1][atom][0] == "not" else (atom, row[:-1], row[-1]))
    return looks


def _lot(rows):
    return tuple(sorted(set(rows)))
