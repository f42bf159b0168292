"""Texts of questions, there and back."""

from enoughlooks.errors import NoText, Wrong
from enoughlooks.forms import are_columns, is_atom, is_question, is_range
from enoughlooks.texts import read_integer, words_of

MOST_BOUND_DIGITS = 9


def show_question(question):
    """The text of a QUESTION."""
    columns, atoms, ranges = question
    lines = [("columns",) + columns]
    lines.extend([(word, name) + its for word, name, its in atoms])
    lines.extend([("range", column, _show_bound(low), _show_bound(high)) for column, low, high in ranges])
    return "\n".join([" ".join(words) for words in lines])


def read_question(text):
    """The QUESTION that a text tells."""
    if not isinstance(text, str):
        raise Wrong(0)
    lines = text.split("\n")
    told = []
    for index, line in enumerate(lines):
        words = words_of(line.partition("#")[0])
        if words == []:
            continue
        part = _read_part(words)
        if part is None or not _goes_with(part, told):
            raise NoText(index)
        told.append(part)
    question = _question_of(told)
    # What no single line can be blamed for: no columns, one in no "has" atom, or a range of none of them.
    if not is_question(question):
        raise NoText(len(lines))
    return question


def _show_bound(bound):
    return "-" if bound is None else str(bound)


def _shows_bound(word):
    if word == "-":
        return True
    return read_integer(word) is not None and len(word.removeprefix("-")) <= MOST_BOUND_DIGITS


def _read_part(words):
    """What a line tells: ("columns", names), ("atom", ATOM) or ("range", RANGE); None if it is none of these."""
    head, rest = words[0], words[1:]
    if head == "columns":
        return ("columns", tuple(rest)) if are_columns(tuple(rest)) else None
    if head in ("has", "not") and rest != []:
        atom = (head, rest[0], tuple(rest[1:]))
        return ("atom", atom) if is_atom(atom) else None
    if head != "range" or len(rest) != 3 or not _shows_bound(rest[1]) or not _shows_bound(rest[2]):
        return None
    # The word for no bound is no integer, so it is read as None.
    bounds = (rest[0], read_integer(rest[1]), read_integer(rest[2]))
    return ("range", bounds) if is_range(bounds) else None


def _goes_with(part, ahead):
    """Whether some QUESTION has a part besides those of the lines ahead."""
    kind, thing = part
    if kind == "columns":
        return ahead == []
    if kind == "atom":
        name, columns = thing[1], thing[2]
        taken = [other[1] for word, other in ahead if word == "atom"]
    else:
        name, columns = thing[0], (thing[0],)
        taken = [other[0] for word, other in ahead if word == "range"]
    if name in taken:
        return False
    return ahead == [] or ahead[0][0] != "columns" or all([column in ahead[0][1] for column in columns])


def _question_of(told):
    """What parts of a text make, if it is a QUESTION."""
    atoms = tuple([thing for kind, thing in told if kind == "atom"])
    ranges = tuple([thing for kind, thing in told if kind == "range"])
    if told != [] and told[0][0] == "columns":
        return told[0][1], atoms, ranges
    met = {column: True for word, name, columns in atoms for column in columns}
    return tuple(list(met)), atoms, ranges
