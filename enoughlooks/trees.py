"""Trees of pages that stay as they are: a change makes new pages beside them."""

from enoughlooks.pages import FEWEST_ENTRIES, MOST_ENTRIES, groups_of


def tree_of(many, rows):
    """A PAGE TREE of a LOT of rows, with as few pages as can be."""
    made = {}
    root = _top(made, 0, "leaf", rows)
    return many, root, made


def has(tree, row):
    """Whether a row is one of the tree's."""
    path, leaf = _path_to(tree, row)
    return row in tree[2][leaf][1]


def put(tree, row):
    """The tree with the row."""
    path, leaf = _path_to(tree, row)
    rows = tree[2][leaf][1]
    if row in rows:
        return _copied(tree)
    return _with_leaf(tree, path, tuple(sorted(rows + (row,))))


def take(tree, row):
    """The tree without the row."""
    path, leaf = _path_to(tree, row)
    rows = tree[2][leaf][1]
    if row not in rows:
        return _copied(tree)
    return _with_leaf(tree, path, tuple([other for other in rows if other != row]))


def new_pages(tree, other):
    """The LOT of the numbers of the pages of other that are not pages of tree."""
    elder, pages = tree[2], other[2]
    return tuple([number for number in sorted(pages) if number not in elder or elder[number] != pages[number]])


def nearest(tree, prefix, x):
    """Whether x is there behind prefix, and the values there next below and above it."""
    told, numbers = _looked(tree, prefix, x)
    return told


def pages_read(tree, prefix, x):
    """The LOT of the numbers of the pages that nearest reads."""
    told, numbers = _looked(tree, prefix, x)
    return tuple(sorted(set(numbers)))


def rows_behind(tree, prefix):
    """The LOT of the rows that begin with prefix."""
    root, pages = tree[1], tree[2]
    size = len(prefix)
    waiting = [root]
    found = []
    while waiting != []:
        kind, entries = pages[waiting.pop()]
        if kind == "leaf":
            found.extend([row for row in entries if row[:size] == prefix])
        else:
            waiting.extend(_children_behind(entries, prefix))
    return tuple(sorted(found))


def _copied(tree):
    many, root, pages = tree
    return many, root, {number: pages[number] for number in sorted(pages)}


def _path_to(tree, row):
    """The nodes that lead to where a row stands, each with the index of the child gone into; and the leaf's number."""
    number, pages = tree[1], tree[2]
    path = []
    while pages[number][0] == "node":
        children = pages[number][1]
        # A row below all others belongs to the first child.
        at = max(0, len([least for least, child in children if least <= row]) - 1)
        path.append((number, at))
        number = children[at][1]
    return path, number


def _with_leaf(tree, path, rows):
    """The tree with these rows in the leaf behind path, all pages on the path being new."""
    many, root, pages = tree
    first = max(list(pages)) + 1
    made = {}
    gone = [root]
    kind, entries = "leaf", rows
    for number, at in reversed(path):
        children = pages[number][1]
        begin, end, entries = _filled(pages, children, at, entries)
        gone.extend([child for row, child in children[begin:end]])
        entries = children[:begin] + _paged(made, first, kind, entries) + children[end:]
        kind = "node"
    if kind == "node" and len(entries) < FEWEST_ENTRIES:
        top = entries[0][1]
    else:
        top = _top(made, first, kind, entries)
    kept = {number: pages[number] for number in sorted(pages) if number not in gone}
    return many, top, {**kept, **made}


def _filled(pages, children, at, entries):
    """Enough entries for the child at an index, with those of one next to it if need be: begin, end, entries."""
    if len(entries) >= FEWEST_ENTRIES:
        return at, at + 1, entries
    if at > 0:
        return at - 1, at + 1, pages[children[at - 1][1]][1] + entries
    return 0, 2, entries + pages[children[1][1]][1]


def _top(made, first, kind, entries):
    """Puts entries on new pages, and nodes above these up to one page, whose number it returns."""
    while len(entries) > MOST_ENTRIES:
        entries = _paged(made, first, kind, entries)
        kind = "node"
    return _numbered(made, first, (kind, entries))


def _paged(made, first, kind, entries):
    """Puts entries on as few new pages as can be, equally many on each but for one; returns the children for these."""
    many = len(entries)
    count = groups_of(many)
    children = []
    for index in range(count):
        group = entries[index * many // count:(index + 1) * many // count]
        least = group[0] if kind == "leaf" else group[0][0]
        children.append((least, _numbered(made, first, (kind, group))))
    return tuple(children)


def _numbered(made, first, page):
    number = first + len(made)
    made[number] = page
    return number


def _looked(tree, prefix, x):
    """What nearest returns, and the numbers of the pages read for it."""
    if x is None:
        last, following, numbers = _edge(tree, prefix)
        return (False, None, _value_behind(prefix, following)), numbers
    last, following, numbers = _edge(tree, prefix + (x,))
    low = _value_behind(prefix, last)
    high = _value_behind(prefix, following)
    if high != x:
        return (False, low, high), numbers
    last, following, more = _edge(tree, prefix + (x + 1,))
    return (True, low, _value_behind(prefix, following)), numbers + more


def _edge(tree, bound):
    """The last row that begins below bound, the first one that does not, and the numbers of the pages read."""
    number, pages = tree[1], tree[2]
    size = len(bound)
    numbers = []
    following = None
    while True:
        kind, entries = pages[number]
        numbers.append(number)
        rows = entries if kind == "leaf" else [row for row, child in entries]
        below = len([row for row in rows if row[:size] < bound])
        if below < len(rows):
            following = rows[below]
        if below == 0:
            return None, following, numbers
        if kind == "leaf":
            return rows[below - 1], following, numbers
        number = entries[below - 1][1]


def _value_behind(prefix, row):
    """The value of a row behind prefix, None if there is no row, or if it does not begin so."""
    size = len(prefix)
    if row is None or row[:size] != prefix:
        return None
    return row[size]


def _children_behind(children, prefix):
    """The numbers of the children in which a row can begin with prefix."""
    size = len(prefix)
    numbers = []
    for index, (least, number) in enumerate(children):
        behind = children[index + 1:index + 2]
        if least[:size] <= prefix and all([row[:size] >= prefix for row, child in behind]):
            numbers.append(number)
    return numbers
