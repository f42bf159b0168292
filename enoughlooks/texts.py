"""Texts of tables, and the integers and rows that stand in texts."""

from enoughlooks.errors import NoText, Wrong
from enoughlooks.forms import is_name

MOST_DIGITS = 4300


def show_row(row):
    """The integers of a row, with one blank between them."""
    return " ".join([str(value) for value in row])


def show_tables(tables):
    """The text of TABLES."""
    lines = []
    for name in sorted(tables):
        many, rows = tables[name]
        lines.append(f"table {name} {many}")
        lines.extend([show_row(row) for row in rows])
    return "\n".join(lines)


def words_of(line):
    """The words of a line, parted by blanks alone."""
    return [word for word in line.split(" ") if word != ""]


def read_integer(word):
    """The integer that Python shows as this word, None if there is none."""
    digits = word.removeprefix("-")
    # Python shows no integer with more digits, and raises an error if it is to read one.
    if len(digits) > MOST_DIGITS or not digits.isascii() or not digits.isdigit():
        return None
    number = int(word)
    return number if str(number) == word else None


def read_row(words):
    """The ROW that words show, None if they show none."""
    row = tuple([read_integer(word) for word in words])
    if row == () or None in row:
        return None
    return row


def read_tables(text):
    """The TABLES that a text shows."""
    if not isinstance(text, str):
        raise Wrong(0)
    widths = {}
    rows = {}
    name = None
    for index, line in enumerate(text.split("\n")):
        words = words_of(line)
        head = _read_head(words)
        row = read_row(words)
        if head is not None and head[0] not in widths:
            name, many = head
            widths[name] = many
            rows[name] = {}
        elif row is not None and name is not None and len(row) == widths[name] and row not in rows[name]:
            rows[name][row] = True
        elif words != []:
            raise NoText(index)
    return {told: (widths[told], tuple(sorted(rows[told]))) for told in sorted(widths)}


def _read_head(words):
    """The name and the number of columns that a table's line tells, None if it is no such line."""
    if len(words) != 3 or words[0] != "table" or not is_name(words[1]):
        return None
    many = read_integer(words[2])
    if many is None or many < 1:
        return None
    return words[1], many
