"""Pages, and the trees that they make."""

from enoughlooks.forms import is_from, is_lot_of_rows, is_row, is_tuple_of

MOST_ENTRIES = 4
FEWEST_ENTRIES = 2


def is_page(thing):
    """Whether a value is a PAGE."""
    if not is_tuple_of(thing, 2):
        return False
    kind, entries = thing
    if kind == "leaf":
        return is_lot_of_rows(entries) and len(entries) <= MOST_ENTRIES
    if kind != "node" or not isinstance(entries, tuple):
        return False
    return FEWEST_ENTRIES <= len(entries) <= MOST_ENTRIES and all([_is_child(entry) for entry in entries])


def is_page_tree(thing):
    """Whether a value is a PAGE TREE."""
    if not is_tuple_of(thing, 3):
        return False
    many, root, pages = thing
    if not is_from(many, 1) or not is_from(root, 0) or not isinstance(pages, dict):
        return False
    if not all([is_from(number, 0) and is_page(pages[number]) for number in pages]):
        return False
    levels = _levels(root, pages)
    return levels is not None and _leaves_stand(many, pages, levels[-1]) and _nodes_stand(pages, levels)


def rows_of(tree):
    """The LOT of the rows of a PAGE TREE."""
    root, pages = tree[1], tree[2]
    numbers = [root]
    while pages[numbers[0]][0] == "node":
        numbers = _below(pages, numbers)
    return tuple(_entries(pages, numbers))


def height(tree):
    """The HEIGHT of a PAGE TREE."""
    number, pages = tree[1], tree[2]
    pages_met = 1
    while pages[number][0] == "node":
        number = pages[number][1][0][1]
        pages_met += 1
    return pages_met


def most_height(many):
    """The greatest HEIGHT of a PAGE TREE of so many rows."""
    return max(1, many.bit_length() - 1)


def fewest_pages(many):
    """How few pages a PAGE TREE of so many rows can have."""
    level = max(1, groups_of(many))
    total = level
    while level > 1:
        level = groups_of(level)
        total += level
    return total


def groups_of(many):
    """On how few pages so many entries can stand."""
    return (many + MOST_ENTRIES - 1) // MOST_ENTRIES


def _is_child(thing):
    return is_tuple_of(thing, 2) and is_row(thing[0]) and is_from(thing[1], 0)


def _entries(pages, numbers):
    return [entry for number in numbers for entry in pages[number][1]]


def _below(pages, numbers):
    return [child for row, child in _entries(pages, numbers)]


def _levels(root, pages):
    """The numbers of the pages, level by level, from root on; None if these are not levels of all pages, each once."""
    met = {}
    levels = []
    numbers = [root]
    while numbers != []:
        for number in numbers:
            # A number that is met again would lead to endlessly many levels, or to two ways to one page.
            if number not in pages or number in met:
                return None
            met[number] = True
        levels.append(numbers)
        kinds = [pages[number][0] for number in numbers]
        if kinds.count(kinds[0]) < len(kinds):
            return None
        numbers = _below(pages, numbers) if kinds[0] == "node" else []
    return levels if len(met) == len(pages) else None


def _leaves_stand(many, pages, numbers):
    """Whether the leaves have enough rows, of many integers, that make one LOT from left to right."""
    rows = tuple(_entries(pages, numbers))
    if len(numbers) > 1 and not all([len(pages[number][1]) >= FEWEST_ENTRIES for number in numbers]):
        return False
    return is_lot_of_rows(rows) and all([len(row) == many for row in rows])


def _nodes_stand(pages, levels):
    """Whether beside each number in a node the least row below it stands; the leaves being in order."""
    if len(levels) == 1:
        return True
    least = {number: pages[number][1][0] for number in levels[-1]}
    for numbers in reversed(levels[:-1]):
        for number in numbers:
            children = pages[number][1]
            if not all([least[child] == row for row, child in children]):
                return False
            least[number] = children[0][0]
    return True
