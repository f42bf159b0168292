"""Looks into the tables of a nested question, what they tell, and the boxes that come of it."""

from enoughlooks.forests import way_of, way_rows
from enoughlooks.forms import is_bound, is_from, is_row, is_tuple_of
from enoughlooks.tables import is_there, nearest_by_all


def is_look(question, tables, thing):
    """Whether a value is a LOOK."""
    if not isinstance(thing, tuple) or len(thing) < 2 or not is_atom_index(question, thing[0]):
        return False
    atom, prefix = thing[0], thing[1]
    size = len(way_of(question, atom))
    if question[1][atom][0] == "not":
        return len(thing) == 2 and is_row(prefix) and len(prefix) == size
    if len(thing) != 3 or not is_prefix(prefix) or len(prefix) >= size or not is_bound(thing[2]):
        return False
    return is_there(way_rows(question, tables, atom), prefix)


def told(question, tables, look):
    """What a LOOK TELLS."""
    rows = way_rows(question, tables, look[0])
    if is_tuple_of(look, 2):
        return ("there",) if look[1] in rows else ("away",)
    atom, prefix, x = look
    there, low, high = nearest_by_all(rows, prefix, x)
    return ("there",) if there else ("gap", low, high)


def box_of(look, its):
    """The TRUE BOX that a LOOK tells, None if it tells none."""
    if its[0] == "gap":
        return ("gap", look[0], look[1]) + its[1:]
    if its == ("there",) and is_tuple_of(look, 2):
        return ("row",) + look
    return None


def is_atom_index(question, thing):
    """Whether a value is the index of an ATOM."""
    return is_from(thing, 0) and thing < len(question[1])


def is_prefix(thing):
    """Whether a value is a tuple of integers, perhaps of none."""
    return thing == () or is_row(thing)
