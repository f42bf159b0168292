"""Nested questions, looks and boxes as the document tells them, in the plainest way; and drawn questions and tables."""

import functools
import itertools

from values import drawn_rows


def plain_atoms(question, column):
    return {index for index, atom in enumerate(question[1]) if column in atom[2]}


def plain_cross(question, one, other):
    """Whether two columns CROSS."""
    mine, its = plain_atoms(question, one), plain_atoms(question, other)
    return bool(mine - its) and bool(its - mine) and bool(mine & its)


def plain_nested(question):
    """Whether of each two columns the atoms of one are all among those of the other, or they have none in common."""
    for one, other in itertools.combinations(question[0], 2):
        mine, its = plain_atoms(question, one), plain_atoms(question, other)
        if not (mine <= its or its <= mine or not mine & its):
            return False
    return True


def plain_above(question, one, other):
    mine, its = plain_atoms(question, one), plain_atoms(question, other)
    return its < mine or (its == mine and question[0].index(one) < question[0].index(other))


@functools.lru_cache(maxsize=10000)
def plain_path(question, column):
    """All orders of the columns above one and of it are tried: just one has each above all behind it."""
    those = [other for other in question[0] if plain_above(question, other, column)] + [column]
    found = [order for order in itertools.permutations(those)
             if all(plain_above(question, one, other) for one, other in itertools.combinations(order, 2))]
    assert len(found) == 1
    return found[0]


def plain_parent(question, column):
    above = plain_path(question, column)[:-1]
    return above[-1] if above else None


@functools.lru_cache(maxsize=10000)
def plain_children(question, parent):
    """The children of a column; the roots of None."""
    return tuple(column for column in question[0] if plain_parent(question, column) == parent)


@functools.lru_cache(maxsize=10000)
def plain_way(question, atom):
    columns = question[1][atom][2]
    found = [plain_path(question, column) for column in columns if set(plain_path(question, column)) == set(columns)]
    assert len(found) == 1
    return found[0]


def plain_way_rows(question, tables, atom):
    word, name, columns = question[1][atom]
    way = plain_way(question, atom)
    return {tuple(dict(zip(columns, row))[column] for column in way) for row in tables[name][1]}


def plain_told(question, tables, look):
    """What a LOOK TELLS."""
    rows = plain_way_rows(question, tables, look[0])
    if question[1][look[0]][0] == "not":
        return ("there",) if look[1] in rows else ("away",)
    atom, prefix, x = look
    values = {row[len(prefix)] for row in rows if row[:len(prefix)] == prefix}
    if x is None:
        return ("gap", None, min(values, default=None))
    if x in values:
        return ("there",)
    low = max((value for value in values if value < x), default=None)
    return ("gap", low, min((value for value in values if value > x), default=None))


def plain_looks(question, tables):
    """All LOOKS but those far from all values and those of rows that no table has."""
    looks = []
    for atom, (word, name, columns) in enumerate(question[1]):
        rows = plain_way_rows(question, tables, atom)
        if word == "not":
            looks.extend((atom, row) for row in sorted(rows))
            continue
        values = sorted({value for row in rows for value in row} | {0})
        prefixes = {()} | {row[:size] for row in rows for size in range(len(columns))}
        for prefix in sorted(prefixes):
            looks.extend((atom, prefix, x) for x in [None, *range(values[0] - 2, values[-1] + 3)])
    return looks


def plain_boxes(question, tables):
    """The TRUE BOXES, in the order of the document."""
    found = {}
    for look in plain_looks(question, tables):
        its = plain_told(question, tables, look)
        if its[0] == "gap":
            found[("gap", look[0], look[1], its[1], its[2])] = True
        elif len(look) == 2:
            found[("row", look[0], look[1])] = True

    def place(box):
        if box[0] == "row":
            return box[1], box[2]
        return box[1], box[2], box[3] is not None, box[3] or 0
    return sorted(found, key=place)


@functools.lru_cache(maxsize=10000)
def plain_places_of(question, atom):
    """The places, in a POINT, of the values at the WAY of an ATOM."""
    return [question[0].index(column) for column in plain_way(question, atom)]


def plain_holds(question, box, point):
    values = tuple([point[place] for place in plain_places_of(question, box[1])])
    if box[0] == "row":
        return values == box[2]
    word, atom, prefix, low, high = box
    value = values[len(prefix)]
    return values[:len(prefix)] == prefix and (low is None or value > low) and (high is None or value < high)


@functools.lru_cache(maxsize=10000)
def plain_range(question, column):
    return next(((low, high) for name, low, high in question[2] if name == column), (None, None))


def plain_lets(question, column, value):
    low, high = plain_range(question, column)
    return (low is None or value >= low) and (high is None or value <= high)


def plain_grid(question, tables):
    """For each column values of its range such that each other one lies as one of them does."""
    grid = []
    for column in question[0]:
        values = {0} | {bound for bound in plain_range(question, column) if bound is not None}
        for word, name, columns in question[1]:
            if column in columns:
                values |= {row[columns.index(column)] for row in tables[name][1]}
        near = {value + step for value in values for step in (-1, 0, 1)}
        grid.append([value for value in sorted(near) if plain_lets(question, column, value)])
    return grid


def plain_points(question, tables):
    """POINTS such that each other one lies as one of them does; all ANSWERS are among them."""
    return list(itertools.product(*plain_grid(question, tables)))


def plain_is_answer(question, tables, point):
    named = dict(zip(question[0], point))
    return all((tuple(named[column] for column in columns) in tables[name][1]) == (word == "has")
               for word, name, columns in question[1])


def plain_answers(question, tables):
    return [point for point in plain_points(question, tables) if plain_is_answer(question, tables, point)]


def plain_shape(question, points, parent=None):
    """The SHAPE of the children of a column, of the roots if it is None, told from just the points behind a prefix."""
    if not points:
        return None
    branches = []
    for column in plain_children(question, parent):
        at = question[0].index(column)
        branch = []
        for value in sorted({point[at] for point in points}):
            behind = [point for point in points if point[at] == value]
            branch.append((value, plain_shape(question, behind, column)))
        branches.append(tuple(branch))
    return tuple(branches)


def plain_places(shape):
    return sum(1 + plain_places(below) for branch in shape or () for value, below in branch)


def drawn_question(draw, most_columns=4, most_atoms=5):
    """A NESTED QUESTION: columns in trees, each atom the columns from a root down to some column."""
    many = draw.randrange(1, most_columns + 1)
    names = draw.sample(["a", "b", "c", "d", "e", "f"], many)
    paths = {}
    for name in names:
        above = draw.choice([(), *paths.values()])
        paths[name] = above + (name,)
    leaves = [name for name in names if not any(name in path[:-1] for path in paths.values())]
    ends = [("has", name) for name in leaves]
    while len(ends) < most_atoms and draw.random() < 0.7:
        ends.append((draw.choice(["has", "not"]), draw.choice(names)))
    atoms = [(word, f"t{index}", tuple(draw.sample(paths[end], len(paths[end])))) for index, (word, end) in enumerate(ends)]
    draw.shuffle(atoms)
    return tuple(draw.sample(names, many)), tuple(atoms), drawn_ranges(draw, names)


def drawn_ranges(draw, names):
    ranges = []
    for name in draw.sample(names, len(names)):
        if draw.random() < 0.4:
            low = draw.randrange(-2, 4)
            ranges.append((name, draw.choice([None, low, low]), draw.choice([None, low, low + draw.randrange(5)])))
    return tuple(ranges)


def drawn_any_question(draw, most_columns=4, most_atoms=4):
    """A QUESTION, NESTED or not."""
    columns = tuple(draw.sample(["a", "b", "c", "d", "e"], draw.randrange(1, most_columns + 1)))
    atoms = [("has", "all", columns)] if draw.random() < 0.2 else [("has", f"h{name}", (name,)) for name in columns]
    for index in range(draw.randrange(1, most_atoms + 1)):
        its = tuple(draw.sample(columns, draw.randrange(1, len(columns) + 1)))
        atoms.append((draw.choice(["has", "has", "not"]), f"t{index}", its))
    had = {column for word, name, its in atoms[1:] if word == "has" for column in its}
    if had == set(columns):
        atoms = atoms[1:]
    return columns, tuple(atoms), drawn_ranges(draw, list(columns))


def drawn_tables(draw, question, most_rows=8, top=4):
    """TABLES that the question FITS, and one more."""
    tables = {"zz": (1, ((5,),))}
    for word, name, columns in draw.sample(question[1], len(question[1])):
        count = draw.randrange(most_rows + 1) if word == "has" else draw.randrange(3)
        tables[name] = (len(columns), drawn_rows(draw, len(columns), count, top))
    return tables


def nested_questions():
    """NESTED QUESTIONS that each have something of their own."""
    return [
        (("a",), (("has", "r", ("a",)),), ()),
        (("a", "b"), (("has", "r", ("b", "a")),), ()),
        (("b", "a"), (("has", "r", ("b", "a")), ("not", "n", ("a", "b"))), (("a", 1, None),)),
        (("a", "b"), (("has", "r", ("a",)), ("has", "s", ("b",))), (("b", None, 2),)),
        (("c", "a", "b"), (("has", "r", ("a",)), ("has", "s", ("b", "a")), ("not", "n", ("a", "b")), ("has", "t", ("a", "c"))),
         (("b", None, 8),)),
        (("d", "c", "b", "a"), (("has", "r", ("a", "b", "c", "d")), ("has", "s", ("b", "a")), ("not", "n", ("a",))), ()),
        (("a", "b", "c"), (("has", "r", ("c", "a")), ("has", "s", ("b",)), ("not", "m", ("c", "a")), ("not", "n", ("b",))),
         (("c", 0, 3), ("a", None, None))),
    ]
