"""NEWS as the document tells it, in the plainest way; drawn NEWS; and all small TABLES."""

import itertools

from plain_questions import plain_boxes, plain_holds, plain_lets, plain_looks, plain_told, plain_way, plain_way_rows


def news_by_hand(question, tables, looks):
    return tuple((look, plain_told(question, tables, look)) for look in looks)


def drawn_looks(draw, question, tables, most=14):
    """LOOKS, some of them twice, some at rows that are away."""
    looks = plain_looks(question, tables)
    for atom, (word, name, columns) in enumerate(question[1]):
        if word == "not":
            looks += [(atom, tuple(draw.randrange(-2, 4) for _ in columns)) for _ in range(4)]
    return [draw.choice(looks) for _ in range(draw.randrange(most + 1))] if looks else []


def plain_there(question, news, atom):
    """The rows, in the order of the WAY, that are TOLD THERE."""
    found = set()
    for look, its in news:
        if look[0] != atom:
            continue
        if question[1][atom][0] == "not":
            if its == ("there",):
                found.add(look[1])
            continue
        prefix, x = look[1:]
        ends = [x] if its == ("there",) else [end for end in its[1:] if end is not None]
        found |= {prefix + (end,) for end in ends}
    return {row for row in found if len(row) == len(question[1][atom][2])}


def plain_away(news, atom):
    return {look[1] for look, its in news if look[0] == atom and its == ("away",)}


def plain_told_boxes(news):
    """The boxes that are told, in the order in which they first come."""
    boxes = []
    for look, its in news:
        if its[0] == "gap":
            boxes.append(("gap", look[0], look[1], its[1], its[2]))
        elif its == ("there",) and len(look) == 2:
            boxes.append(("row", look[0], look[1]))
    return list(dict.fromkeys(boxes))


def plain_row(question, atom, point):
    """The values of a POINT at the WAY of an ATOM."""
    return tuple(point[question[0].index(column)] for column in plain_way(question, atom))


def plain_sure(question, news, point):
    for atom, (word, name, columns) in enumerate(question[1]):
        rows = plain_there(question, news, atom) if word == "has" else plain_away(news, atom)
        if plain_row(question, atom, point) not in rows:
            return False
    return True


def plain_is_loose(question, news, point):
    """Whether no box that is told HOLDS a POINT, and it is not SURE."""
    return not any(plain_holds(question, box, point) for box in plain_told_boxes(news)) and not plain_sure(question, news, point)


def near_points(question, news):
    """POINTS such that each other one lies as one of them does."""
    values = {0}
    for look, its in news:
        values |= {value for value in look[1] + look[2:] + its[1:] if value is not None}
    for column, low, high in question[2]:
        values |= {bound for bound in (low, high) if bound is not None}
    near = sorted({value + step for value in values for step in (-1, 0, 1)})
    return itertools.product(*[[value for value in near if plain_lets(question, column, value)] for column in question[0]])


def plain_is_enough(question, news):
    return not any(plain_is_loose(question, news, point) for point in near_points(question, news))


def plain_is_look(question, tables, look):
    """Whether something of the form of a LOOK is one on these TABLES."""
    if question[1][look[0]][0] == "not" or look[1] == ():
        return True
    return any(row[:len(look[1])] == look[1] for row in plain_way_rows(question, tables, look[0]))


def plain_holds_on(question, tables, pair):
    """Whether a TOLD LOOK HOLDS on TABLES."""
    look, its = pair
    return plain_is_look(question, tables, look) and plain_told(question, tables, look) == its


def small_tables(question, values):
    """All TABLES of just the names of a question, all values of which are among these."""
    names = [(name, len(columns)) for word, name, columns in question[1]]
    tables = []
    for name, many in names:
        rows = list(itertools.product(values, repeat=many))
        tables.append([(many, tuple(row for row, truth in zip(rows, chosen) if truth))
                       for chosen in itertools.product((False, True), repeat=len(rows))])
    return [{name: table for (name, many), table in zip(names, chosen)} for chosen in itertools.product(*tables)]


def boxes_and_rows(question, news):
    """All that ENOUGH goes by: boxes, rows told there, rows told away."""
    found = [("box", box) for box in plain_told_boxes(news)]
    for atom, (word, name, columns) in enumerate(question[1]):
        rows = plain_there(question, news, atom) if word == "has" else plain_away(news, atom)
        found += [("row", atom, row) for row in rows]
    return set(found)


def all_boxes_told(question, tables, news):
    return set(plain_told_boxes(news)) == set(plain_boxes(question, tables))
