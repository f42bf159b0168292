"""A house as the document tells it, without a disk: tables, questions, and what is KNOWN of them."""

from enoughlooks.reader import read_question
from plain_engine import plain_run
from plain_news import plain_holds_on
from plain_questions import plain_told


class PlainHouse:
    """TABLES, QUESTIONS by names, the TOLD LOOKS that are KNOWN of each, and how many LOOKS were done."""

    def __init__(self):
        self.tables, self.questions, self.known, self.done, self.commits = {}, {}, {}, 0, 0

    def copy(self):
        same = PlainHouse()
        same.tables, same.questions = dict(self.tables), dict(self.questions)
        same.known = {name: dict(known) for name, known in self.known.items()}
        same.done, same.commits = self.done, self.commits
        return same

    def commit(self, changes):
        """Makes changes that can be made."""
        elder = dict(self.questions)
        for change in changes:
            word, name = change[:2]
            if word == "table":
                self.tables[name] = (change[2], ())
            elif word == "drop":
                del self.tables[name]
            elif word in ("put", "take"):
                many, rows = self.tables[name]
                rows = set(rows) - {change[2]} | ({change[2]} if word == "put" else set())
                self.tables[name] = (many, tuple(sorted(rows)))
            elif word == "question":
                self.questions[name] = read_question(change[2])
            else:
                del self.questions[name]
        self.commits += 1
        self.recall(elder)

    def recall(self, elder):
        """Forgets what does not HOLD any more, and all of questions that do not stand as they stood."""
        for name, known in list(self.known.items()):
            question = self.questions.get(name)
            if question is None or question != elder.get(name) or not self.fits(name):
                del self.known[name]
            else:
                self.known[name] = {look: its for look, its in known.items() if plain_holds_on(question, self.tables, (look, its))}

    def fits(self, name):
        return all(its in self.tables and self.tables[its][0] == len(columns) for word, its, columns in self.questions[name][1])

    def answer(self, name):
        """The SHAPE and the PAPER; the LOOKS that are not KNOWN are done."""
        question = self.questions[name]
        shape, paper, looks = plain_run(question, self.tables)
        known = self.known.setdefault(name, {})
        fresh = {look: plain_told(question, self.tables, look) for look in looks if look not in known}
        self.done += len(fresh)
        known.update(fresh)
        return shape, paper
