"""Looks into the tables of a nested question, what they tell, and the boxes that come of it."""

from enoughlooks.forests import way_rows
from enoughlooks.forms import is_bound, is_from, is_row, is_tuple_of
from enoughlooks.gaps import gap_at, values_behind
from enoughlooks.tables import is_there, nearest_by_all


def is_look(question, tables, thing):
    """Whether a value is a LOOK."""
    if not _has_form(question, thing):
        return False
    return len(thing) == 2 or is_there(way_rows(question, tables, thing[0]), thing[1])


def told(question, tables, look):
    """What a LOOK TELLS."""
    rows = way_rows(question, tables, look[0])
    if is_tuple_of(look, 2):
        return ("there",) if look[1] in rows else ("away",)
    atom, prefix, x = look
    there, low, high = nearest_by_all(rows, prefix, x)
    return ("there",) if there else ("gap", low, high)


def box_of(look, its):
    """The TRUE BOX that a LOOK tells, None if it tells none."""
    if its[0] == "gap":
        return ("gap", look[0], look[1]) + its[1:]
    if its == ("there",) and is_tuple_of(look, 2):
        return ("row",) + look
    return None


def layout(question, tables):
    """For each ATOM the values behind all beginnings of its rows, in the order of its WAY: what many looks go by."""
    return [values_behind(way_rows(question, tables, atom)) for atom in range(len(question[1]))]


def is_look_by(question, laid, thing):
    """Whether a value is a LOOK, by a layout."""
    return _has_form(question, thing) and (len(thing) == 2 or thing[1] in laid[thing[0]])


def told_by(laid, look):
    """What a LOOK TELLS, by a layout."""
    if is_tuple_of(look, 2):
        return ("there",) if look[1] in laid[look[0]] else ("away",)
    atom, prefix, x = look
    gap = gap_at(laid[atom][prefix], x)
    return ("there",) if gap is None else ("gap",) + gap


def is_atom_index(question, thing):
    """Whether a value is the index of an ATOM."""
    return is_from(thing, 0) and thing < len(question[1])


def is_prefix(thing):
    """Whether a value is a tuple of integers, perhaps of none."""
    return thing == () or is_row(thing)


def _has_form(question, thing):
    """Whether a value has the form of a LOOK, wherever its prefix is there."""
    if not isinstance(thing, tuple) or len(thing) < 2 or not is_atom_index(question, thing[0]):
        return False
    word, name, columns = question[1][thing[0]]
    if word == "not":
        return len(thing) == 2 and is_row(thing[1]) and len(thing[1]) == len(columns)
    return len(thing) == 3 and is_prefix(thing[1]) and len(thing[1]) < len(columns) and is_bound(thing[2])
