"""Other tables, on which all that was told is told, too, and whose answers are others."""

from enoughlooks.forests import off_way, on_way, way_rows
from enoughlooks.forms import is_tables
from enoughlooks.heard import Heard, ends_told
from enoughlooks.least import least_paper
from enoughlooks.meaning import is_answer
from enoughlooks.papers import shape_told
from enoughlooks.questions import part_of
from enoughlooks.readers import are_news, unsure_atoms
from enoughlooks.tables import changed


def other_tables(question, tables, news):
    """TABLES on which NEWS is true, too, and whose ANSWERS are others; None if it is ENOUGH."""
    heard = Heard(question, news)
    point = heard.loose()
    if point is None:
        return None
    if not is_answer(question, tables, point):
        return changed(tables, _edits_for(question, point))
    atom = unsure_atoms(question, heard, point)[0]
    word, name, columns = question[1][atom]
    part = part_of(question, atom, point)
    if word == "not":
        return changed(tables, [("put", name, part)])
    return changed(tables, _edits_against(question, tables, news, atom, on_way(question, atom, part)))


def are_other(question, tables, news, thing):
    """Whether a value is TABLES on which NEWS is true, too, and whose ANSWERS are others."""
    if not is_tables(thing) or sorted(thing) != sorted(tables):
        return False
    if not all([thing[name][0] == tables[name][0] for name in tables]) or not are_news(question, thing, news):
        return False
    return shape_told(least_paper(question, thing)) != shape_told(least_paper(question, tables))


def _edits_for(question, point):
    """The EDITS that make a POINT an ANSWER."""
    edits = {"has": "put", "not": "take"}
    atoms = list(enumerate(question[1]))
    return [(edits[word], name, part_of(question, atom, point)) for atom, (word, name, columns) in atoms]


def _edits_against(question, tables, news, atom, row):
    """The EDITS that take away a row of a "has" atom that was not told there, so that no look tells otherwise."""
    name = question[1][atom][1]
    known = max([_known_size(pair, row) for pair in news if pair[0][0] == atom], default=0)
    rows = way_rows(question, tables, atom)
    gone = [other for other in rows if other[:known + 1] == row[:known + 1]]
    edits = [("take", name, off_way(question, atom, other)) for other in gone]
    if len([other for other in rows if other[:known] == row[:known]]) == len(gone):
        # What was told to begin rows must begin one still; no look was behind it.
        other = row[:known] + (row[known] + 1,) + row[known + 1:]
        edits.append(("put", name, off_way(question, atom, other)))
    return edits


def _known_size(pair, row):
    """How long a beginning of a row a TOLD LOOK at its "has" atom tells to be there."""
    prefix = pair[0][1]
    for size, value in enumerate(prefix):
        if row[size] != value:
            return size
    return len(prefix) + (1 if row[len(prefix)] in ends_told(pair) else 0)
