"""Covers, papers and the fewest boxes as the document tells them, in the plainest way; and values with parts exchanged."""

import itertools

from plain_questions import drawn_question, drawn_tables, nested_questions, plain_boxes, plain_children, plain_holds, plain_is_answer
from plain_questions import plain_lets, plain_path, plain_places, plain_points, plain_range, plain_shape, plain_way
from values import drawing

# In the tests all values that stand in tables and papers are nearer to 0 than these integers.
FEW = range(-40, 41)
FAR_BELOW, FAR_ABOVE = -5, 9


def drawn_cases(seed, count, most_columns=4, most_rows=8):
    """NESTED QUESTIONS with TABLES."""
    draw = drawing(seed)
    questions = nested_questions() + [drawn_question(draw, most_columns) for _ in range(count)]
    return [(question, drawn_tables(draw, question, most_rows)) for question in questions]


def plain_is_cover(question, tables, boxes):
    """Whether TRUE BOXES hold, together, each POINT that is no ANSWER."""
    return all(plain_is_answer(question, tables, point) or any(plain_holds(question, box, point) for box in boxes)
               for point in plain_points(question, tables))


def plain_masks(question, tables):
    """For each POINT that is no ANSWER the boxes that hold it, as indexes; none that another one makes needless."""
    boxes = plain_boxes(question, tables)
    masks = {frozenset(at for at, box in enumerate(boxes) if plain_holds(question, box, point))
             for point in plain_points(question, tables) if not plain_is_answer(question, tables, point)}
    return boxes, [mask for mask in masks if not any(other < mask for other in masks)]


def least_of_all_sets(question, tables):
    """LEAST, by trying all sets of boxes, the smaller ones first."""
    boxes, masks = plain_masks(question, tables)
    for size in range(len(boxes) + 1):
        for chosen in itertools.combinations(range(len(boxes)), size):
            if all(not mask.isdisjoint(chosen) for mask in masks):
                return size
    raise AssertionError("no cover")


def plain_least(question, tables):
    """LEAST: for some point that is not held yet each box that holds it is tried."""
    _, masks = plain_masks(question, tables)
    size = 0
    while not can_hold(masks, size):
        size += 1
    return size


def can_hold(masks, size):
    if not masks:
        return True
    if size == 0:
        return False
    first = min(masks, key=len)
    return any(can_hold([mask for mask in masks if box not in mask], size - 1) for box in sorted(first))


def can_be_apart(masks, size):
    """Whether so many points, told by the boxes that hold them, are APART."""
    if size == 0:
        return True
    if len(masks) < size:
        return False
    return can_be_apart([mask for mask in masks[1:] if mask.isdisjoint(masks[0])], size - 1) or can_be_apart(masks[1:], size)


def inside(low, value, high):
    return (low is None or value > low) and (high is None or value < high)


def few_of(question, column):
    """The integers of a column's range, as if there were none beyond FEW."""
    return [value for value in FEW if plain_lets(question, column, value)]


class PlainJudge:
    """The judge, integer by integer."""

    def __init__(self, question, tables):
        self.question, self.tables = question, tables
        self.boxes = {repr(box) for box in plain_boxes(question, tables)}
        self.atoms = [(word, plain_way(question, atom)) for atom, (word, name, columns) in enumerate(question[1])]

    def there(self, atom, prefix):
        """Whether a beginning of a row, in the order of the way, is there."""
        word, name, columns = self.question[1][atom]
        places = [columns.index(column) for column in self.atoms[atom][1]]
        return any(tuple(row[place] for place in places)[:len(prefix)] == prefix for row in self.tables[name][1])

    def takes(self, thing, parent=None, prefix=()):
        columns = plain_children(self.question, parent)
        if type(thing) is not tuple or not thing:
            return False
        if repr(thing[0]) == "'all'" and len(thing) == 2:
            levels = thing[1]
            return type(levels) is tuple and len(levels) == len(columns) and all(
                self.takes_level(level, column, prefix) for level, column in zip(levels, columns))
        if repr(thing[0]) != "'one'" or len(thing) != 3 or type(thing[1]) is not int or not 0 <= thing[1] < len(columns):
            return False
        return self.takes_level(thing[2], columns[thing[1]], prefix) and plain_tells(thing[2]) is False

    def takes_level(self, level, column, prefix):
        if type(level) is not tuple or [type(part) for part in level] != [tuple, tuple]:
            return False
        gaps, values = level
        if not all(self.takes_gap(gap, column, prefix) for gap in gaps):
            return False
        places = [(low is not None, low or 0, atom) for atom, low, high in gaps]
        if places != sorted(set(places)):
            return False
        if not all(type(each) is tuple and len(each) == 2 and type(each[0]) is int for each in values):
            return False
        told = [value for value, what in values]
        left = [value for value in few_of(self.question, column) if not any(inside(gap[1], value, gap[2]) for gap in gaps)]
        return told == left and all(self.takes_value(prefix + (value,), column, what) for value, what in values)

    def takes_gap(self, gap, column, prefix):
        if type(gap) is not tuple or len(gap) != 3 or repr(("gap", gap[0], prefix, gap[1], gap[2])) not in self.boxes:
            return False
        word, way = self.atoms[gap[0]]
        return way[len(prefix)] == column and any(inside(gap[1], value, gap[2]) for value in few_of(self.question, column))

    def takes_value(self, row, column, what):
        if type(what) is tuple and len(what) == 2 and repr(what[0]) == "'row'":
            return repr(("row", what[1], row)) in self.boxes and self.atoms[what[1]][1][-1] == column
        had = [atom for atom, (word, way) in enumerate(self.atoms) if word == "has" and column in way]
        barring = [atom for atom, (word, way) in enumerate(self.atoms) if word == "not" and way[-1] == column]
        if not all(self.there(atom, row) for atom in had) or any(self.there(atom, row) for atom in barring):
            return False
        return self.takes(what, column, row)


def plain_tells(level):
    """Whether a LEVEL TELLS ANSWERS."""
    for value, what in level[1]:
        if what[0] == "all" and all(plain_tells(below) for below in what[1]):
            return True
    return False


def plain_least_paper(question, tables, parent=None, prefix=()):
    """The PAPER that [27] tells, integer by integer."""
    levels = [plain_least_level(question, tables, column, prefix) for column in plain_children(question, parent)]
    empty = [index for index, level in enumerate(levels) if not plain_tells(level)]
    if not empty:
        return "all", tuple(levels)
    index = min(empty, key=lambda each: (plain_size(levels[each]), each))
    return "one", index, levels[index]


def plain_least_level(question, tables, column, prefix):
    boxes = [box for box in plain_boxes(question, tables) if box[0] == "gap" and box[2] == prefix
             and plain_way(question, box[1])[len(prefix)] == column]
    rows = [box for box in plain_boxes(question, tables) if box[0] == "row" and plain_way(question, box[1])[-1] == column]
    gaps, values = [], []
    for x in few_of(question, column):
        if any(inside(low, x, high) for atom, low, high in gaps):
            continue
        holding = [box for box in boxes if inside(box[3], x, box[4])]
        if holding:
            best = min(holding, key=lambda box: (box[4] is not None, -(box[4] or 0), box[1]))
            gaps.append((best[1], best[3], best[4]))
            continue
        barring = [box[1] for box in rows if box[2] == prefix + (x,)]
        below = ("row", min(barring)) if barring else plain_least_paper(question, tables, column, prefix + (x,))
        values.append((x, below))
    return tuple(gaps), tuple(values)


def plain_size(level):
    """For how many boxes a LEVEL stands."""
    many = len(level[0])
    for value, what in level[1]:
        below = {"all": what[1], "one": what[2:], "row": ()}[what[0]]
        many += 1 if what[0] == "row" else sum(plain_size(each) for each in below)
    return many


def plain_left(question, boxes):
    """What [24] says of left_by; all boxes and ranges are near 0."""
    sides = []
    for column in question[0]:
        low, high = plain_range(question, column)
        sides.append((FAR_BELOW if low is None else low, FAR_ABOVE if high is None else high))
    left = list(itertools.product(*[range(low, high + 1) for low, high in sides]))
    for box in boxes:
        left = [point for point in left if not plain_holds(question, box, point)]
    for place, column in enumerate(question[0]):
        low, high = plain_range(question, column)
        # What is left so far off is left farther off as well.
        if any(point[place] == FAR_BELOW and low is None or point[place] == FAR_ABOVE and high is None for point in left):
            return ("many",)
    shape = plain_shape(question, left)
    return ("many",) if plain_places(shape) > 2000 else ("shape", shape)


def prefixes_at(question, tables, column):
    """All PREFIXES at a column that are THERE at all "has" atoms that go through it."""
    judge = PlainJudge(question, tables)
    size = len(plain_path(question, column)) - 1
    found = {()} if size == 0 else set()
    had = [atom for atom, (word, way) in enumerate(judge.atoms) if word == "has" and column in way]
    for word, name, columns in question[1]:
        for row in tables[name][1]:
            for order in itertools.permutations(row, min(size, len(row))):
                found.add(order)
    return sorted(prefix for prefix in found if len(prefix) == size and all(not prefix or judge.there(atom,
                                                    prefix) for atom in had))


def exchanged(draw, thing, others):
    """A value with one part of it exchanged, left out, added or put in another order."""
    if type(thing) is tuple and thing and draw.random() < 0.8:
        at = draw.randrange(len(thing))
        return thing[:at] + (exchanged(draw, thing[at], others),) + thing[at + 1:]
    if type(thing) is tuple and draw.random() < 0.8:
        at = draw.randrange(len(thing) + 1)
        ways = [thing[:at] + thing[at + 1:], thing[:at] + thing[at:at + 1] + thing[at:], thing[::-1], list(thing),
                thing[:at] + (draw.choice(others),) + thing[at:], thing[at:] + thing[:at]]
        return draw.choice(ways)
    if type(thing) is int and draw.random() < 0.6:
        return draw.choice([thing + 1, thing - 1, thing == 1, None, str(thing)])
    return draw.choice(others)


def parts_within(thing):
    """A value, and all that stands in it."""
    found = [thing]
    for part in thing if type(thing) is tuple else ():
        found.extend(parts_within(part))
    return found
