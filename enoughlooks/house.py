"""A house of tables and questions that stand in a store, with what looks have told of them."""

from enoughlooks.counting import many_of
from enoughlooks.engine import led, measured
from enoughlooks.errors import NoName, NoText, NotFit, NotNested, PowerCut, TooMany, Wrong
from enoughlooks.forests import is_nested
from enoughlooks.forms import is_edit, is_name, is_tuple_of
from enoughlooks.kept import still_told, unfit_at
from enoughlooks.looks import layout
from enoughlooks.reader import read_question, show_question
from enoughlooks.shapes import points_of
from enoughlooks.store import Store

MOST_VIEWED = 200


class House:
    """Tables and questions on a Store of its own, and what it KNOWS."""

    def __init__(self, files):
        self._store = Store(files)
        # By the names of questions: the dicts from LOOKS to what they tell.
        self._known = {}
        self._done = 0

    def __eq__(self, other):
        return isinstance(other, House) and self._store == other._store

    def tables(self):
        """The TABLES on the disk."""
        return self._store.tables()

    def questions(self):
        """The dict from names to QUESTIONS."""
        notes = self._store.notes()
        read = {name: _question_in(notes[name]) for name in sorted(notes)}
        return {name: read[name] for name in read if read[name] is not None}

    def texts(self):
        """The dict from the names of the questions to their texts."""
        notes = self._store.notes()
        return {name: notes[name] for name in self.questions()}

    def commits(self):
        """The number of the commits that made what is on the disk."""
        return self._store.commits()

    def done(self):
        """How many LOOKS the house has done so far."""
        return self._done

    def files(self):
        """What stands on the disk."""
        return self._store.files()

    def mend(self):
        """Takes away what a commit that was cut has left."""
        self._store.mend()

    def fuse(self, many, fates):
        """Lets the disk's power fail ahead of the deed behind so many more."""
        self._store.fuse(many, fates)

    def power(self):
        """Brings the disk's power back; all that is KNOWN is gone."""
        self._store.power()
        self._known = {}

    def has_power(self):
        """Whether the disk has power."""
        return self._store.has_power()

    def commit(self, changes):
        """Makes edits of tables, and questions come and go, all in one commit."""
        if not isinstance(changes, (list, tuple)) or not all([_is_change(change) for change in changes]):
            raise Wrong(0)
        self._make([_as_stored(change) for change in changes])

    def answer(self, name):
        """The SHAPE and the PAPER of a question; just the LOOKS that are not KNOWN are done."""
        shape, paper, fresh = self._led(name)
        self._learn(name, fresh)
        self._done += len(fresh)
        return shape, paper

    def points(self, name):
        """The LOT of the ANSWERS of a question."""
        question, tables = self.asked(name)
        return points_of(question, self.answer(name)[0])

    def measure(self, name):
        """LEAST, places, looks and their bound of a question."""
        question, tables = self.asked(name)
        return measured(question, tables)

    def asked(self, name):
        """A question, and the TABLES, which it FITS."""
        questions = self.questions()
        if name not in questions:
            raise NoName(name)
        tables = self.tables()
        index = unfit_at(questions[name], tables)
        if index is not None:
            raise NotFit(index)
        return questions[name], tables

    def view(self, name, other):
        """Makes the ANSWERS of a question a table."""
        if not is_name(name):
            raise Wrong(0)
        if not is_name(other):
            raise Wrong(1)
        question, tables = self.asked(name)
        shape, paper, fresh = self._led(name)
        if many_of(shape) > MOST_VIEWED:
            raise TooMany(MOST_VIEWED)
        changes = [("drop", other)] if other in tables else []
        changes.append(("table", other, len(question[0])))
        changes.extend([("put", other, point) for point in points_of(question, shape)])
        self._make(changes)
        # If the commit is cut, the looks count as not done; so they are learnt behind it, as far as they still hold.
        self._done += len(fresh)
        now = self.tables()
        self._learn(name, still_told(question, now, fresh) if unfit_at(question, now) is None else [])

    def twin(self):
        """An independent House in the same state."""
        same = House({})
        same._store = self._store.twin()
        same._known = {name: {look: self._known[name][look] for look in self._known[name]} for name in self._known}
        same._done = self._done
        return same

    def _led(self, name):
        """The SHAPE, the PAPER, and the TOLD LOOKS that are not KNOWN of a question."""
        question, tables = self.asked(name)
        return led(question, layout(question, tables), self._known.get(name, {}))

    def _learn(self, name, pairs):
        known = self._known.setdefault(name, {})
        for look, its in pairs:
            known[look] = its

    def _make(self, changes):
        """Makes CHANGES of the Store in one commit."""
        elder = self.questions()
        try:
            self._store.commit(changes)
        except PowerCut:
            self._recall(elder)
            raise
        self._recall(elder)

    def _recall(self, elder):
        """KNOWS of each question that stands as it stood just what still HOLDS."""
        now = self.questions()
        tables = self.tables()
        names = [name for name in self._known if name in now and name in elder and now[name] == elder[name]]
        fitting = [name for name in names if unfit_at(now[name], tables) is None]
        held = {name: [(look, self._known[name][look]) for look in self._known[name]] for name in fitting}
        self._known = {}
        for name in fitting:
            self._learn(name, still_told(now[name], tables, held[name]))


def _question_in(text):
    """The NESTED question that a text shows, None if it shows none."""
    try:
        question = read_question(text)
    except NoText:
        return None
    return question if is_nested(question) else None


def _is_change(thing):
    """Whether a value is one of the changes that a house makes."""
    if is_tuple_of(thing, 3) and thing[0] == "question":
        return is_name(thing[1]) and isinstance(thing[2], str)
    return is_edit(thing) or is_tuple_of(thing, 2) and thing[0] == "forget" and is_name(thing[1])


def _as_stored(change):
    """The CHANGE of the Store that a change of the house comes to."""
    if change[0] != "question":
        return change
    word, name, text = change
    question = read_question(text)
    if not is_nested(question):
        raise NotNested()
    return "note", name, show_question(question)
