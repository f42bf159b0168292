"""Tables: their rows, what stands next to a value in them, and edits."""

from enoughlooks.errors import BadRow, NoTable, Twice


def has_row(table, row):
    """Whether a ROW is one of the TABLE's."""
    return row in table[1]


def with_row(table, row):
    """The TABLE with the row."""
    many, rows = table
    if row in rows:
        return table
    return many, tuple(sorted(rows + (row,)))


def without_row(table, row):
    """The TABLE without the row."""
    many, rows = table
    return many, tuple([other for other in rows if other != row])


def led_rows(table, places):
    """The LOT of the rows, their integers put in the order of these indexes."""
    return tuple(sorted([tuple([row[place] for place in places]) for row in table[1]]))


def is_there(rows, prefix):
    """Whether some row begins with prefix; () is there even without rows."""
    return prefix == () or any([row[:len(prefix)] == prefix for row in rows])


def nearest_by_all(rows, prefix, x):
    """Whether x is there behind prefix, and the values there next below and above it."""
    size = len(prefix)
    values = [row[size] for row in rows if row[:size] == prefix]
    if x is None:
        return False, None, min(values, default=None)
    low = max([value for value in values if value < x], default=None)
    high = min([value for value in values if value > x], default=None)
    return x in values, low, high


def check_edit(edit, many):
    """Raises why an EDIT cannot be made; many is how many columns its table has now, None if there is none."""
    word, name = edit[0], edit[1]
    if word == "table":
        if many is not None:
            raise Twice(name)
    elif many is None:
        raise NoTable(name)
    elif word != "drop" and len(edit[2]) != many:
        raise BadRow(name, edit[2])


def changed(tables, edits):
    """The TABLES behind all EDITS, one after the other."""
    now = {name: tables[name] for name in tables}
    for edit in edits:
        word, name = edit[0], edit[1]
        check_edit(edit, now[name][0] if name in now else None)
        if word == "table":
            now[name] = (edit[2], ())
        elif word == "drop":
            del now[name]
        elif word == "put":
            now[name] = with_row(now[name], edit[2])
        else:
            now[name] = without_row(now[name], edit[2])
    return {name: now[name] for name in sorted(now)}
