"""Answers that are kept while rows come and go."""

from enoughlooks.counting import many_of
from enoughlooks.engine import led
from enoughlooks.errors import NotFit, NotNested, Wrong
from enoughlooks.forests import is_nested, on_way, way_rows
from enoughlooks.forms import is_name, is_question, is_row, is_tables
from enoughlooks.gaps import values_behind
from enoughlooks.looks import is_look_by, layout, told_by
from enoughlooks.shapes import is_in
from enoughlooks.tables import check_edit, with_row, without_row


def still_told(question, tables, pairs):
    """The list of those TOLD LOOKS that HOLD on TABLES."""
    laid = layout(question, tables)
    return [pair for pair in pairs if _is_still_told(question, laid, pair)]


def may_change(question, look, name, row):
    """Whether a ROW that is put into a table, or taken out of it, can change what a LOOK tells."""
    atom, prefix = look[0], look[1]
    if question[1][atom][1] != name:
        return False
    # The prefix of a LOOK at a "not" atom is the whole row.
    return on_way(question, atom, row)[:len(prefix)] == prefix


def unfit_at(question, tables):
    """The index of the first ATOM because of which a QUESTION does not FIT TABLES, None if it does."""
    for index, (word, name, columns) in enumerate(question[1]):
        if name not in tables or tables[name][0] != len(columns):
            return index
    return None


class Kept:
    """The ANSWERS of a QUESTION on TABLES that change."""

    def __init__(self, question, tables):
        if not is_question(question):
            raise Wrong(0)
        if not is_tables(tables):
            raise Wrong(1)
        if not is_nested(question):
            raise NotNested()
        index = unfit_at(question, tables)
        if index is not None:
            raise NotFit(index)
        self._question = question
        self._tables = {name: tables[name] for name in sorted(tables)}
        self._laid = layout(question, tables)
        self._known = {}
        self._done = 0
        self._result = None

    def put(self, name, row):
        """Puts a row into a table, and tells whether it is another one now."""
        self._check("put", name, row)
        return self._change(name, row, with_row(self._tables[name], row))

    def take(self, name, row):
        """Takes a row out of a table, and tells whether it is another one now."""
        self._check("take", name, row)
        return self._change(name, row, without_row(self._tables[name], row))

    def shape(self):
        """The SHAPE of the ANSWERS."""
        return self._run()[0]

    def paper(self):
        """The PAPER that the engine comes to."""
        return self._run()[1]

    def done(self):
        """How many LOOKS have been done so far."""
        return self._done

    def known(self):
        """The dict from the LOOKS that are KNOWN to what they tell."""
        return {look: self._known[look] for look in self._known}

    def tables(self):
        """The TABLES as they are now."""
        return {name: self._tables[name] for name in self._tables}

    def question(self):
        """The QUESTION."""
        return self._question

    def many(self):
        """How many ANSWERS there are."""
        return many_of(self.shape())

    def has(self, point):
        """Whether a tuple of integers is one of the ANSWERS."""
        if not is_row(point) or len(point) != len(self._question[0]):
            raise Wrong(0)
        return is_in(self._question, self.shape(), point)

    def _check(self, word, name, row):
        if not is_name(name):
            raise Wrong(0)
        if not is_row(row):
            raise Wrong(1)
        check_edit((word, name, row), self._tables[name][0] if name in self._tables else None)

    def _change(self, name, row, table):
        """Sets a table in which at most this row has come or gone."""
        if table == self._tables[name]:
            return False
        self._tables[name] = table
        self._result = None
        for atom, (word, its, columns) in enumerate(self._question[1]):
            if its == name:
                self._laid[atom] = values_behind(way_rows(self._question, self._tables, atom))
                self._forget(atom, row)
        return True

    def _forget(self, atom, row):
        """Forgets what does not HOLD any more, now that a row of an ATOM has come or gone."""
        led_row = on_way(self._question, atom, row)
        touched = [look for look in self._known if look[0] == atom and led_row[:len(look[1])] == look[1]]
        for look in touched:
            if not _is_still_told(self._question, self._laid, (look, self._known[look])):
                del self._known[look]

    def _run(self):
        """The SHAPE and the PAPER; just the LOOKS that are not KNOWN are done."""
        if self._result is None:
            shape, paper, fresh = led(self._question, self._laid, self._known)
            for look, its in fresh:
                self._known[look] = its
            self._done += len(fresh)
            self._result = (shape, paper)
        return self._result


def _is_still_told(question, laid, pair):
    look, its = pair
    return is_look_by(question, laid, look) and told_by(laid, look) == its
