"""The engine as the document tells it, as two kinds of generators that yield LOOKS and are sent what these tell."""

from plain_questions import plain_atoms, plain_children, plain_range, plain_told, plain_way


def plain_run(question, tables):
    """The SHAPE, the PAPER and the LOOKS."""
    asking = siblings(question, None, ())
    looks = [next(asking)]
    while True:
        try:
            looks.append(asking.send(plain_told(question, tables, looks[-1])))
        except StopIteration as end:
            return end.value + (looks,)


def siblings(question, parent, prefix):
    """Goes through the children of a column, the roots of None, in turn; returns their SHAPE and their PAPER."""
    columns = plain_children(question, parent)
    asking = [one_column(question, column, prefix) for column in columns]
    wanted = [next(each) for each in asking]
    ended = {}
    while len(ended) < len(columns):
        for index in range(len(columns)):
            if index in ended:
                continue
            its = yield wanted[index]
            try:
                wanted[index] = asking[index].send(its)
            except StopIteration as end:
                level, branch = end.value
                if branch == ():
                    return None, ("one", index, level)
                ended[index] = (level, branch)
    return tuple(ended[index][1] for index in range(len(columns))), ("all", tuple(ended[index][0] for index in range(len(columns))))


def one_column(question, column, prefix):
    """Goes through one column; returns its LEVEL and its BRANCH."""
    low, high = plain_range(question, column)
    atoms = sorted(plain_atoms(question, column))
    having = [atom for atom in atoms if question[1][atom][0] == "has"]
    barring = [atom for atom in atoms if question[1][atom][0] == "not" and plain_way(question, atom)[-1] == column]
    gaps, values, branch = [], [], []
    x = low
    while True:
        told = []
        for atom in having:
            its = yield atom, prefix, x
            if its[0] == "gap":
                told.append((atom, its[1], its[2]))
        if told:
            endless = [gap for gap in told if gap[2] is None]
            best = (endless or [gap for gap in told if gap[2] == max(each[2] for each in told)])[0]
            gaps.append(best)
            x = best[2]
        else:
            barred = None
            for atom in barring:
                its = yield atom, prefix + (x,)
                if its == ("there",):
                    barred = atom
                    break
            if barred is not None:
                values.append((x, ("row", barred)))
            else:
                shape, paper = yield from siblings(question, column, prefix + (x,))
                values.append((x, paper))
                if shape is not None:
                    branch.append((x, shape))
            x += 1
        if x is None or high is not None and x > high:
            return (tuple(gaps), tuple(values)), tuple(branch)
