"""A desk that leads a house by lines."""

from enoughlooks.apart import apart_points
from enoughlooks.counting import many_of, page
from enoughlooks.errors import NoCommand, Wrong
from enoughlooks.forms import is_name
from enoughlooks.house import House
from enoughlooks.papers import boxes_in
from enoughlooks.texts import read_integer, show_row, show_tables, words_of

CHANGE_WORDS = ("table", "drop", "put", "take", "forget", "question")
MOST_DIGITS = 9


class Desk:
    """A House of its own, led by lines."""

    def __init__(self, files):
        self._house = House(files)

    def house(self):
        """A twin of the house."""
        return self._house.twin()

    def execute(self, line):
        """Does what a line says, and returns the lines of the answer."""
        if not isinstance(line, str):
            raise Wrong(0)
        words = words_of(line)
        if words == [] or "\n" in line:
            raise NoCommand()
        if words[0] in CHANGE_WORDS:
            return self._commit(words)
        if words[0] == "cut":
            return self._cut(words[1:])
        if len(words) == 1:
            return self._tell(words[0])
        if not is_name(words[1]):
            raise NoCommand()
        if words[0] == "page":
            return self._page(words[1], words[2:])
        if words[0] == "view":
            return self._view(words[1], words[2:])
        if len(words) > 2:
            raise NoCommand()
        return self._ask(words[0], words[1])

    def _commit(self, words):
        changes = [_change_of(part) for part in _parted(words, ";")]
        if None in changes:
            raise NoCommand()
        self._house.commit(changes)
        return ["done"]

    def _cut(self, words):
        many = _read_number(words[0], 0) if words != [] else None
        fates = tuple([_fate_of(word) for word in words[1:]])
        if many is None or None in fates:
            raise NoCommand()
        self._house.fuse(many, fates)
        return ["done"]

    def _tell(self, word):
        """Does what a line of one word says."""
        if word == "tables":
            tables = self._house.tables()
            return show_tables(tables).split("\n") if tables != {} else []
        if word == "questions":
            texts = self._house.texts()
            return [_show_text(name, texts[name]) for name in texts]
        if word == "looks":
            return [str(self._house.done())]
        if word == "commits":
            return [str(self._house.commits())]
        if word == "power":
            self._house.power()
            return ["done"]
        if word == "mend":
            self._house.mend()
            return ["done"]
        raise NoCommand()

    def _ask(self, word, name):
        """Tells something of a question."""
        if word == "ask":
            return [show_row(point) for point in self._house.points(name)]
        if word == "many":
            return [str(many_of(self._house.answer(name)[0]))]
        if word == "paper":
            question, tables = self._house.asked(name)
            return [_show_box(question, box) for box in boxes_in(self._house.answer(name)[1])]
        if word == "measure":
            return [show_row(self._house.measure(name))]
        if word == "apart":
            question, tables = self._house.asked(name)
            return [show_row(point) for point in apart_points(question, tables)]
        raise NoCommand()

    def _page(self, name, words):
        if len(words) != 2:
            raise NoCommand()
        many, index = _read_number(words[0], 1), _read_number(words[1], 0)
        if many is None or index is None:
            raise NoCommand()
        question, tables = self._house.asked(name)
        shape = self._house.answer(name)[0]
        return [show_row(point) for point in page(question, shape, many, index)]

    def _view(self, name, words):
        if len(words) != 1 or not is_name(words[0]):
            raise NoCommand()
        self._house.view(name, words[0])
        return ["done"]


def _parted(words, mark):
    """The lists of the words between those that are a mark."""
    parts = [[]]
    for word in words:
        if word == mark:
            parts.append([])
        else:
            parts[-1].append(word)
    return parts


def _change_of(words):
    """The change that words tell, None if they tell none."""
    if len(words) < 2 or not is_name(words[1]):
        return None
    word, name, rest = words[0], words[1], words[2:]
    if word == "question":
        return word, name, "\n".join([" ".join(line) for line in _parted(rest, "|")])
    if word in ("drop", "forget"):
        return (word, name) if rest == [] else None
    row = tuple([_read_number(each, None) for each in rest])
    if row == () or None in row:
        return None
    if word == "table":
        return (word, name, row[0]) if len(row) == 1 and row[0] >= 1 else None
    return (word, name, row) if word in ("put", "take") else None


def _read_number(word, least):
    """The integer, of at most nine digits, that a word shows; None if it shows none, or one below least."""
    number = read_integer(word)
    if number is None or len(word.removeprefix("-")) > MOST_DIGITS:
        return None
    return number if least is None or number >= least else None


def _fate_of(word):
    """The FATE that a word shows, None if it shows none."""
    return word if word in ("done", "lost") else _read_number(word, 0)


def _show_text(name, text):
    """The name of a question, and the lines of its text, in one line."""
    lines = [" ".join(words_of(line)) for line in text.split("\n")]
    return " ".join(words_of(name + " " + " | ".join(lines)))


def _show_box(question, box):
    """A box as one line."""
    name = question[1][box[1]][1]
    if box[0] == "row":
        return f"{name} {show_row(box[2])} here"
    low, high = ["-" if bound is None else str(bound) for bound in box[3:]]
    return " ".join([name] + [str(value) for value in box[2]] + [f"({low} {high})"])
