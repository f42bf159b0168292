"""What stands where on a disk: pages, the root that tells which of them make tables, and the deeds of a commit."""

from enoughlooks.disk import done, is_files, is_text
from enoughlooks.errors import NoName
from enoughlooks.forms import is_edit, is_from, is_name, is_tuple_of
from enoughlooks.pages import is_page, is_page_tree, rows_of
from enoughlooks.tables import check_edit
from enoughlooks.texts import read_integer, read_row, show_row
from enoughlooks.trees import new_pages, put, take

ROOT_PATH = "root"
NEW_ROOT_PATH = "root-new"


def is_change(thing):
    """Whether a value is a CHANGE."""
    if is_edit(thing):
        return True
    if is_tuple_of(thing, 2):
        return thing[0] == "forget" and is_name(thing[1])
    return is_tuple_of(thing, 3) and thing[0] == "note" and is_name(thing[1]) and is_text(thing[2])


def page_text(page):
    """The text of a PAGE."""
    kind, entries = page
    if kind == "leaf":
        lines = [show_row(row) for row in entries]
    else:
        lines = [f"{number} : {show_row(row)}" for row, number in entries]
    return "\n".join([kind] + lines)


def root_text(root):
    """The text of a ROOT."""
    commits, tables, notes = root
    lines = [f"commits {commits}"]
    for name in sorted(tables):
        many, number = tables[name]
        lines.append(f"table {name} {many} {number}")
    for name in sorted(notes):
        lines.append(f"note {name} {_escaped(notes[name])}")
    return "\n".join(lines)


def read_page(text):
    """The PAGE of which a text is just this, None if there is none."""
    lines = text.split("\n")
    if lines[0] == "leaf":
        entries = [read_row(line.split(" ")) for line in lines[1:]]
    else:
        entries = [_read_child(line.split(" ")) for line in lines[1:]]
    page = (lines[0], tuple(entries))
    return page if is_page(page) else None


def read_root(text):
    """The ROOT of which a text is just this, None if there is none."""
    lines = text.split("\n")
    commits = read_integer(lines[0].removeprefix("commits "))
    tables = {}
    notes = {}
    for line in lines[1:]:
        word, _, rest = line.partition(" ")
        name, _, told = rest.partition(" ")
        if word == "table":
            tables[name] = tuple([read_integer(each) for each in told.split(" ")])
        else:
            notes[name] = _unescaped(told)
    root = (commits, tables, notes)
    # What was read without care for words and order shows as another text, if it is none of a ROOT.
    return root if _is_root(root) and root_text(root) == text else None


def is_sound(thing):
    """Whether a value is SOUND FILES."""
    if not is_files(thing):
        return False
    if ROOT_PATH not in thing:
        return True
    root = read_root(thing[ROOT_PATH])
    if root is None:
        return False
    tables = root[1]
    return all([_is_tree(thing, name, tables[name]) for name in tables])


def root_in(files):
    """The ROOT of SOUND FILES."""
    if ROOT_PATH not in files:
        return 0, {}, {}
    return read_root(files[ROOT_PATH])


def tables_in(files):
    """The TABLES of SOUND FILES."""
    trees = _trees_in(files)
    return {name: (trees[name][0], rows_of(trees[name])) for name in trees}


def tree_in(files, name):
    """The PAGE TREE of a table of SOUND FILES."""
    many, number = root_in(files)[1][name]
    return many, number, _pages_in(files, name, number)


def idle_paths(files):
    """The LOT of the paths of pages at which something stands that is no page of the tables of SOUND FILES."""
    trees = _trees_in(files)
    used = {_page_path(name, number): True for name in trees for number in trees[name][2]}
    return tuple([path for path in sorted(files) if _is_page_path(path) and path not in used])


def mend_deeds(files):
    """The DEEDS after which nothing idle stands any more."""
    idle = [("drop", path) for path in idle_paths(files)]
    if NEW_ROOT_PATH in files:
        idle = [("drop", NEW_ROOT_PATH)] + idle
    return idle + [("sync",)] if idle != [] else []


def commit_deeds(files, changes):
    """The DEEDS of a commit of CHANGES."""
    commits, tables, notes = root_in(files)
    elder = _trees_in(files)
    trees = {name: elder[name] for name in elder}
    for change in changes:
        _make(change, trees, notes, elder)
    root = (commits + 1, {name: trees[name][:2] for name in trees}, notes)
    deeds = _page_deeds(elder, trees) + [("sync",)]
    deeds.extend([("put", NEW_ROOT_PATH, root_text(root)), ("sync",)])
    deeds.extend([("move", NEW_ROOT_PATH, ROOT_PATH), ("sync",)])
    return deeds + [("drop", path) for path in idle_paths(done(files, deeds))]


def _escaped(text):
    return text.replace("\\", "\\\\").replace("\n", "\\n")


def _unescaped(text):
    return "\\".join([part.replace("\\n", "\n") for part in text.split("\\\\")])


def _read_child(words):
    """The row and the page number that a node's line shows, None if it shows none."""
    number = read_integer(words[0])
    row = read_row(words[2:])
    if number is None or row is None or words[1] != ":":
        return None
    return row, number


def _is_root(thing):
    """Whether what was read is a ROOT."""
    commits, tables, notes = thing
    if not is_from(commits, 0) or not all([is_name(name) and is_text(notes[name]) for name in notes]):
        return False
    return all([is_name(name) and _is_place(tables[name]) for name in tables])


def _is_place(thing):
    return is_tuple_of(thing, 2) and is_from(thing[0], 1) and is_from(thing[1], 0)


def _page_path(name, number):
    return f"{name}/{number}"


def _is_page_path(path):
    parts = path.split("/")
    return len(parts) == 2 and is_name(parts[0]) and is_from(read_integer(parts[1]), 0)


def _pages_in(files, name, root):
    """The pages of a table that its root leads to, None if one does not stand where it is said, with its text."""
    pages = {}
    waiting = [root]
    while waiting != []:
        number = waiting.pop()
        path = _page_path(name, number)
        page = read_page(files[path]) if path in files else None
        if page is None:
            return None
        # In files that are not sound a page may lead to itself.
        if page[0] == "node" and number not in pages:
            waiting.extend([child for row, child in page[1]])
        pages[number] = page
    return {number: pages[number] for number in sorted(pages)}


def _is_tree(files, name, place):
    """Whether there is the PAGE TREE of a table with these columns and this root."""
    return is_page_tree(place + (_pages_in(files, name, place[1]),))


def _trees_in(files):
    """The dict from the names of all tables to their PAGE TREES."""
    tables = root_in(files)[1]
    return {name: tables[name] + (_pages_in(files, name, tables[name][1]),) for name in tables}


def _make(change, trees, notes, elder):
    """Makes one CHANGE in trees or notes; elder is the trees ahead of the commit."""
    word, name = change[0], change[1]
    if word == "note":
        notes[name] = change[2]
    elif word == "forget":
        if name not in notes:
            raise NoName(name)
        del notes[name]
    else:
        check_edit(change, trees[name][0] if name in trees else None)
        _edit(change, trees, elder)


def _edit(edit, trees, elder):
    """Makes one EDIT that can be made."""
    word, name = edit[0], edit[1]
    if word == "table":
        # Where a table of this name goes in the same commit, its pages must stay as they are till the root is moved.
        number = max(list(elder[name][2])) + 1 if name in elder else 0
        trees[name] = (edit[2], number, {number: ("leaf", ())})
    elif word == "drop":
        del trees[name]
    elif word == "put":
        trees[name] = put(trees[name], edit[2])
    else:
        trees[name] = take(trees[name], edit[2])


def _page_deeds(elder, trees):
    """The puts of all pages of trees that are not pages of the elder ones."""
    deeds = []
    for name in sorted(trees):
        many, root, pages = trees[name]
        before = elder[name] if name in elder else (many, root, {})
        for number in new_pages(before, trees[name]):
            deeds.append(("put", _page_path(name, number), page_text(pages[number])))
    return deeds
