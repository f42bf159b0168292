"""Values that several tests use: values of any kind, and drawn tables and edits."""

import random

from enoughlooks.desk import Desk
from enoughlooks.disk import Disk
from enoughlooks.errors import Wrong
from enoughlooks.house import House
from enoughlooks.kept import Kept
from enoughlooks.store import Store

PAIRS = (2, ((1, 2), (1, 5), (3, 1)))
QUESTION = (("a", "b"), (("has", "r", ("a",)), ("has", "s", ("b", "a")), ("not", "t", ("b",))), (("b", None, 9),))


def deep_list(depth):
    """A list in a list, so deep."""
    thing = []
    for _ in range(depth):
        thing = [thing]
    return thing


def any_values():
    """Values of any kind that no function here takes for what its name says, unless it says so."""
    return [
        None, True, False, -1, 10 ** 39, "", " ", "\n", "~" * 4000, "A", "a b", "a\n", (), [], {}, (True,), (False, 0),
        [1, 2], [(1,)], {"a": []}, {1: 2}, {True: ()}, {None: "x"}, {("a",): 1}, {"r": (1, [])}, {"A": (1, ())},
        ((),), (None,), ("leaf",), ("leaf", [(1,)]), ("node", ()), ("put", "r"), ("drop", None), ("note", "q"),
        deep_list(20), tuple(range(4000)), Wrong(0), Disk({}), Store({}), [Disk({}), Store({})], {"a": Store({})},
        (Disk({}), "r", ("a",)), (Wrong(1), Disk({})), ([], {}, Store({})), {Wrong(2): ""},
        House({}), Desk({}), Kept((("a",), (("has", "r", ("a",)),), ()), {"r": (1, ())}), (House({}), [Desk({})]),
    ]


def ascending(keys):
    """Whether keys stand in their order, each once."""
    keys = list(keys)
    return all(one < other for one, other in zip(keys, keys[1:]))


def drawn_rows(draw, many, count, top):
    """A LOT of at most count ROWS of so many integers below top, some of them below 0."""
    rows = {tuple(draw.randrange(-top // 2, top) for _ in range(many)) for _ in range(count)}
    return tuple(sorted(rows))


def drawn_edits(draw, count):
    """EDITS most of which can be made, one after the other, from no tables on."""
    widths = {}
    edits = []
    for _ in range(count):
        name = draw.choice(["r", "s", "t"])
        if name not in widths:
            widths[name] = draw.choice([1, 2])
            edits.append(("table", name, widths[name]))
        elif draw.random() < 0.05:
            del widths[name]
            edits.append(("drop", name))
        else:
            row = tuple(draw.randrange(-3, 6) for _ in range(widths[name]))
            edits.append((draw.choice(["put", "put", "take"]), name, row))
    return edits


def drawing(seed):
    """A source of draws that is the same in each run."""
    return random.Random(seed)
