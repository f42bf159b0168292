"""Nested questions as forests of columns: paths, ways, and the factor of the engine's bound."""

from enoughlooks.questions import atoms_of
from enoughlooks.tables import led_rows


def crossing(question):
    """The first two columns that CROSS, and the least atoms that show it; None if the question is NESTED."""
    columns = question[0]
    for place, one in enumerate(columns):
        for other in columns[place + 1:]:
            shown = _crossed(atoms_of(question, one), atoms_of(question, other))
            if shown is not None:
                return (one, other) + shown
    return None


def is_nested(question):
    """Whether a QUESTION is NESTED."""
    return crossing(question) is None


def path_of(question, column):
    """The PATH of a column."""
    above = [other for other in question[0] if _is_above(question, other, column)]
    return _downward(question, above) + (column,)


def parent_of(question, column):
    """The PARENT of a column, None of a ROOT."""
    path = path_of(question, column)
    return path[-2] if len(path) > 1 else None


def children_of(question, column):
    """The columns whose PARENT this one is, in the order of the question."""
    return tuple([other for other in question[0] if parent_of(question, other) == column])


def roots_of(question):
    """The ROOTS, in the order of the question."""
    return tuple([column for column in question[0] if parent_of(question, column) is None])


def forest_of(question):
    """The dict from each column to the tuple of its children, with the ROOTS at None."""
    forest = {column: children_of(question, column) for column in question[0]}
    forest[None] = roots_of(question)
    return forest


def any_below(forest, bounds, column):
    """Any integers, by columns, that the bounds of all columns below one let."""
    found = {}
    for child in forest[column]:
        ends = [bound for bound in bounds[child] if bound is not None]
        found[child] = ends[0] if ends != [] else 0
        found = joined([found, any_below(forest, bounds, child)])
    return found


def joined(parts):
    """Dicts from columns to values put together, later values taking the place of elder ones."""
    return {column: values[column] for values in parts for column in values}


def way_of(question, atom):
    """The WAY of an ATOM."""
    return _downward(question, question[1][atom][2])


def end_of(question, atom):
    """The END of an ATOM."""
    return way_of(question, atom)[-1]


def through(question, column):
    """The indexes of the "has" atoms that go THROUGH a column."""
    return tuple([atom for atom in atoms_of(question, column) if question[1][atom][0] == "has"])


def ending(question, column):
    """The indexes of the "not" atoms whose END a column is."""
    barring = [atom for atom in atoms_of(question, column) if question[1][atom][0] == "not"]
    return tuple([atom for atom in barring if end_of(question, atom) == column])


def on_way(question, atom, row):
    """A ROW of an ATOM, its values put in the order of the WAY."""
    return tuple([row[place] for place in _places_on_way(question, atom)])


def off_way(question, atom, row):
    """A ROW in the order of the WAY of an ATOM, its values put in the order of the atom."""
    way = way_of(question, atom)
    return tuple([row[way.index(column)] for column in question[1][atom][2]])


def way_rows(question, tables, atom):
    """The LOT of the rows of the table of an ATOM, each in the order of the WAY."""
    return led_rows(tables[question[1][atom][1]], _places_on_way(question, atom))


def column_factor(question, column):
    """How many LOOKS at most come of one turn of a column and of what is below it."""
    own = len(through(question, column)) + len(ending(question, column))
    return own + _factor_of(question, children_of(question, column))


def factor(question):
    """The factor of the engine's bound."""
    return _factor_of(question, roots_of(question))


def _crossed(mine, its):
    """The least of mine alone, of its alone, and of both, None if one of these is none."""
    just_mine = [atom for atom in mine if atom not in its]
    just_its = [atom for atom in its if atom not in mine]
    both = [atom for atom in mine if atom in its]
    if just_mine == [] or just_its == [] or both == []:
        return None
    return just_mine[0], just_its[0], both[0]


def _is_above(question, one, other):
    """Whether a column is ABOVE another one."""
    mine, its = atoms_of(question, one), atoms_of(question, other)
    if not all([atom in mine for atom in its]):
        return False
    return len(mine) > len(its) or question[0].index(one) < question[0].index(other)


def _downward(question, columns):
    """Columns of one PATH, each above all behind it."""
    # Of two of them the one with more atoms is above; of two with the same, the one ahead in the question.
    ranks = [(-len(atoms_of(question, column)), question[0].index(column)) for column in columns]
    return tuple([question[0][place] for fewer, place in sorted(ranks)])


def _places_on_way(question, atom):
    """The places, in the columns of an ATOM, of the columns of its WAY."""
    columns = question[1][atom][2]
    return tuple([columns.index(column) for column in way_of(question, atom)])


def _factor_of(question, siblings):
    """The number of siblings times the greatest column_factor of one of them."""
    return len(siblings) * max([column_factor(question, column) for column in siblings], default=0)
