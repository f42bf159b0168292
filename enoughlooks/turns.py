"""The engine as a reader: it sees no table, wants one look after the other, and is told what this tells.

A STATE is that of the siblings at the roots. Siblings that have not ended are ("turns", turn, levels): whose turn it
is, and how far each of them has come; those that have are ("ended", shape, paper). What is told of a sibling is
(node, prefix, round, parts): its column as _node tells, the prefix, the round at one x, None if it has ended, and the
gaps, values and branch so far. A round is (x, asked, told, below): how many looks there were at x, the gaps that they
told, and the siblings below x, None as long as these are not gone through.
"""

from enoughlooks.forests import children_of, ending, roots_of, through
from enoughlooks.gaps import farthest
from enoughlooks.questions import range_of


def begin(question):
    """The STATE ahead of all LOOKS."""
    return _begun(_nodes(question, roots_of(question)), ())


def wanted(question, state):
    """The LOOK that comes next, None if the engine has ended."""
    if state[0] == "ended":
        return None
    word, turn, levels = state
    node, prefix, (x, asked, told, below), parts = levels[turn]
    if below is not None:
        return wanted(question, below)
    low, high, having, barring, children = node
    if asked < len(having):
        return having[asked], prefix, x
    return barring[asked - len(having)], prefix + (x,)


def behind(question, state, its):
    """The STATE behind a wanted LOOK, by what it tells."""
    word, turn, levels = state
    level = _level_behind(question, levels[turn], its)
    return _after_turn(turn, levels[:turn] + (level,) + levels[turn + 1:])


def result(question, state):
    """The SHAPE and the PAPER of a STATE that has ended."""
    return state[1:]


def _nodes(question, columns):
    """What the engine must know of columns: bounds, "has" atoms through, "not" atoms that end there, children."""
    return tuple([range_of(question, column) + (through(question, column), ending(question, column),
                                                _nodes(question, children_of(question, column))) for column in columns])


def _begun(nodes, prefix):
    """Siblings ahead of all their LOOKS."""
    if nodes == ():
        return "ended", (), ("all", ())
    # The first round is at low, which is None for the begin if there is none.
    return "turns", 0, tuple([(node, prefix, (node[0], 0, (), None), ((), (), ())) for node in nodes])


def _after_turn(turn, levels):
    """Siblings behind a turn of one of them."""
    if _has_ended(levels[turn]) and _branch(levels[turn]) == ():
        return "ended", None, ("one", turn, _level(levels[turn]))
    waiting = [index for index, level in enumerate(levels) if not _has_ended(level)]
    if waiting == []:
        return "ended", tuple([_branch(level) for level in levels]), ("all", tuple([_level(level) for level in levels]))
    later = [index for index in waiting if index > turn]
    return "turns", (later + waiting)[0], levels


def _has_ended(level):
    return level[2] is None


def _branch(level):
    return level[3][2]


def _level(level):
    """The LEVEL of a paper that a sibling has come to."""
    return level[3][:2]


def _level_behind(question, level, its):
    """A sibling behind the LOOK that is wanted of it."""
    node, prefix, (x, asked, told, below), (gaps, values, branch) = level
    if below is not None:
        return _led_below(level, behind(question, below, its))
    low, high, having, barring, children = node
    if asked >= len(having) and its == ("there",):
        row = (x, ("row", barring[asked - len(having)]))
        return _moved(node, prefix, x + 1, (gaps, values + (row,), branch))
    if its[0] == "gap":
        told = told + ((having[asked],) + its[1:],)
    if told != () and asked + 1 == len(having):
        gap = farthest(told)
        return _moved(node, prefix, gap[2], (gaps + (gap,), values, branch))
    if asked + 1 < len(having) + len(barring):
        return node, prefix, (x, asked + 1, told, None), level[3]
    return _led_below(level, _begun(children, prefix + (x,)))


def _led_below(level, state):
    """A sibling whose children behind x have come to a state."""
    node, prefix, (x, asked, told, below), (gaps, values, branch) = level
    if state[0] == "turns":
        return node, prefix, (x, asked, told, state), level[3]
    word, shape, paper = state
    if shape is not None:
        branch = branch + ((x, shape),)
    return _moved(node, prefix, x + 1, (gaps, values + ((x, paper),), branch))


def _moved(node, prefix, x, parts):
    """A sibling at its next x, None or above high if it has ended."""
    high = node[1]
    if x is None or high is not None and x > high:
        return node, prefix, None, parts
    return node, prefix, (x, 0, (), None), parts
