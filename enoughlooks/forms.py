"""The forms of values: names, rows, tables, questions and edits."""

LETTERS = "abcdefghijklmnopqrstuvwxyz"
NAME_SIGNS = "abcdefghijklmnopqrstuvwxyz0123456789"
MOST_NAME_SIGNS = 20


def is_integer(thing):
    """Whether a value is an integer, and no truth."""
    return isinstance(thing, int) and not isinstance(thing, bool)


def is_from(thing, least):
    """Whether a value is an integer from least on."""
    return is_integer(thing) and thing >= least


def is_bound(thing):
    """Whether a value is an integer, or None for no bound."""
    return thing is None or is_integer(thing)


def is_tuple_of(thing, many):
    """Whether a value is a tuple with so many members."""
    return isinstance(thing, tuple) and len(thing) == many


def is_name(thing):
    """Whether a value is a NAME."""
    if not isinstance(thing, str) or not 1 <= len(thing) <= MOST_NAME_SIGNS:
        return False
    return thing[0] in LETTERS and all([sign in NAME_SIGNS for sign in thing])


def is_row(thing):
    """Whether a value is a ROW."""
    return isinstance(thing, tuple) and len(thing) >= 1 and all([is_integer(part) for part in thing])


def are_columns(thing):
    """Whether a value is a tuple of unlike NAMES, at least one."""
    if not isinstance(thing, tuple) or len(thing) < 1:
        return False
    return all([is_name(column) for column in thing]) and _are_unlike(thing)


def is_lot_of_rows(thing):
    """Whether a value is a LOT of ROWS, perhaps of unlike lengths."""
    if not isinstance(thing, tuple) or not all([is_row(row) for row in thing]):
        return False
    return all([one < other for one, other in zip(thing, thing[1:])])


def is_table(thing):
    """Whether a value is a TABLE."""
    if not is_tuple_of(thing, 2) or not is_from(thing[0], 1) or not is_lot_of_rows(thing[1]):
        return False
    return all([len(row) == thing[0] for row in thing[1]])


def is_tables(thing):
    """Whether a value is TABLES."""
    return isinstance(thing, dict) and all([is_name(name) and is_table(thing[name]) for name in thing])


def is_atom(thing):
    """Whether a value is an ATOM."""
    if not is_tuple_of(thing, 3) or thing[0] not in ("has", "not") or not is_name(thing[1]):
        return False
    return are_columns(thing[2])


def is_range(thing):
    """Whether a value is a RANGE."""
    if not is_tuple_of(thing, 3) or not is_name(thing[0]):
        return False
    low, high = thing[1], thing[2]
    if not (is_bound(low) and is_bound(high)):
        return False
    return low is None or high is None or low <= high


def is_question(thing):
    """Whether a value is a QUESTION."""
    if not is_tuple_of(thing, 3):
        return False
    columns, atoms, ranges = thing
    if not are_columns(columns) or not isinstance(atoms, tuple) or not isinstance(ranges, tuple):
        return False
    if not all([is_atom(atom) for atom in atoms]) or not all([is_range(bounds) for bounds in ranges]):
        return False
    return _agree(columns, atoms, ranges)


def is_edit(thing):
    """Whether a value is an EDIT."""
    if is_tuple_of(thing, 2):
        return thing[0] == "drop" and is_name(thing[1])
    if not is_tuple_of(thing, 3) or not is_name(thing[1]):
        return False
    if thing[0] == "table":
        return is_from(thing[2], 1)
    return thing[0] in ("put", "take") and is_row(thing[2])


def fits(question, tables):
    """Whether a QUESTION FITS TABLES."""
    atoms = question[1]
    return all([name in tables and tables[name][0] == len(columns) for word, name, columns in atoms])


def _are_unlike(names):
    return len(set(names)) == len(names)


def _agree(columns, atoms, ranges):
    """Whether columns, ATOMS and RANGES make one QUESTION."""
    bound = [column for column, low, high in ranges]
    used = [column for word, name, its in atoms for column in its]
    had = [column for word, name, its in atoms if word == "has" for column in its]
    if not _are_unlike([name for word, name, its in atoms]) or not _are_unlike(bound):
        return False
    if not all([column in columns for column in used + bound]):
        return False
    return all([column in had for column in columns])
