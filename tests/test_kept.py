"""[39], [40], [10], [2], [3], [4]: what still holds, and answers that are kept while rows come and go."""

import copy
import itertools
import unittest

from enoughlooks.engine import run
from enoughlooks.errors import BadRow, LookError, NoTable, NotFit, NotNested, Wrong
from enoughlooks.forms import is_name, is_question, is_row, is_tables
from enoughlooks.kept import Kept, may_change, still_told
from plain_engine import plain_run
from plain_news import drawn_looks, news_by_hand, plain_holds_on, plain_is_look, small_tables
from plain_papers import drawn_cases
from plain_questions import plain_answers, plain_looks, plain_told
from values import any_values, drawing

QUESTION = (("a", "b"), (("has", "r", ("a",)), ("has", "s", ("a", "b")), ("not", "u", ("a", "b"))), ())
TABLES = {"r": (1, ((1,), (3,), (5,))), "s": (2, ((1, 4), (3, 2), (3, 7), (9, 1))), "u": (2, ((3, 2),))}
CROSSED = (("a", "b"), (("has", "r", ("a",)), ("has", "s", ("a", "b")), ("has", "t", ("b",))), ())


def changed_by_hand(tables, word, name, row):
    rows = set(tables[name][1]) | {row} if word == "put" else set(tables[name][1]) - {row}
    return {**tables, name: (tables[name][0], tuple(sorted(rows)))}


def drawn_change(draw, tables):
    name = draw.choice(sorted(tables))
    many, rows = tables[name]
    row = draw.choice(rows) if rows and draw.random() < 0.4 else tuple(draw.randrange(-2, 5) for _ in range(many))
    return draw.choice(["put", "take"]), name, row


class TestStillTold(unittest.TestCase):
    def test_drawn(self):
        draw = drawing(39)
        for question, tables in drawn_cases(390, 80):
            pairs = news_by_hand(question, tables, drawn_looks(draw, question, tables) + plain_run(question, tables)[2][:20])
            now = tables
            for _ in range(4):
                expected = [pair for pair in pairs if plain_holds_on(question, now, pair)]
                self.assertEqual(still_told(question, now, pairs), expected)
                self.assertEqual(still_told(question, now, list(pairs) * 2), expected * 2)
                now = changed_by_hand(now, *drawn_change(draw, now))

    def test_a_prefix_that_is_gone(self):
        pairs = [((1, (3,), 5), ("gap", 2, 7)), ((1, (3,), None), ("gap", None, 2)), ((1, (), 3), ("there",)), ((2, (8, 8)), ("away",))]
        self.assertEqual(still_told(QUESTION, TABLES, pairs), pairs)
        gone = {**TABLES, "s": (2, ((1, 4), (9, 1)))}
        self.assertEqual(still_told(QUESTION, gone, pairs), pairs[3:])
        self.assertEqual(still_told(QUESTION, {**TABLES, "u": (2, ((8, 8),))}, tuple(pairs)), pairs[:3])
        self.assertEqual(still_told(QUESTION, TABLES, ()), [])
        still_told(QUESTION, TABLES, pairs).clear()
        self.assertEqual(len(pairs), 4)


class TestMayChange(unittest.TestCase):
    def check_by_trying(self, question, values):
        everything = small_tables(question, values)
        looks = {look for tables in everything for look in plain_looks(question, tables)}
        looks |= {(atom, row) for atom, (word, name, columns) in enumerate(question[1]) if word == "not"
                  for row in itertools.product(values, repeat=len(columns))}
        for atom, (word, name, columns) in enumerate(question[1]):
            for row in itertools.product(values, repeat=len(columns)):
                with_and_without = [(changed_by_hand(tables, "put", name, row), changed_by_hand(tables, "take", name, row))
                                    for tables in everything if row in tables[name][1]]
                for look in looks:
                    told = [(self.told(question, one, look), self.told(question, other, look)) for one, other in with_and_without]
                    self.assertIs(may_change(question, look, name, row), any(one != other for one, other in told), (look, name, row))

    def told(self, question, tables, look):
        return plain_told(question, tables, look) if plain_is_look(question, tables, look) else None

    def test_by_trying(self):
        self.check_by_trying((("a",), (("has", "r", ("a",)), ("not", "n", ("a",))), ()), (0, 1, 2))
        self.check_by_trying((("a", "b"), (("has", "r", ("b", "a")),), ()), (0, 1))
        self.check_by_trying((("a", "b"), (("has", "r", ("a",)), ("has", "s", ("b",)), ("not", "n", ("b",))), ()), (0, 1))
        self.check_by_trying((("b", "a"), (("has", "r", ("b",)), ("has", "s", ("a", "b"))), ()), (0, 1))

    def test_other_tables(self):
        self.assertIs(may_change(QUESTION, (0, (), None), "s", (1, 1)), False)
        self.assertIs(may_change(QUESTION, (0, (), None), "zz", (1,)), False)
        self.assertIs(may_change(QUESTION, (2, (1, 2)), "u", (1, 2)), True)
        self.assertIs(may_change(QUESTION, (2, (1, 2)), "u", (1, 3)), False)
        self.assertIs(may_change(QUESTION, (2, (1, 2)), "s", (1, 2)), False)


class TestKept(unittest.TestCase):
    def test_led_through_changes(self):
        draw = drawing(40)
        for question, tables in drawn_cases(400, 60):
            kept = Kept(question, tables)
            now, known, done = dict(tables), {}, 0
            for _ in range(25):
                if draw.random() < 0.6:
                    word, name, row = drawn_change(draw, now)
                    later = changed_by_hand(now, word, name, row)
                    self.assertIs(kept.put(name, row) if word == "put" else kept.take(name, row), later != now)
                    now = later
                    known = {look: known[look] for look in known if plain_holds_on(question, now, (look, known[look]))}
                else:
                    shape, paper, looks = plain_run(question, now)
                    fresh = [look for look in looks if look not in known]
                    self.assertEqual(draw.choice([kept.shape, lambda: kept.shape()])(), shape)
                    done += len(fresh)
                    known.update({look: plain_told(question, now, look) for look in fresh})
                    self.assertEqual((kept.done(), kept.paper(), kept.done()), (done, paper, done))
                    self.assertLessEqual(len(fresh), len(looks))
                self.assertEqual((kept.done(), kept.known(), kept.tables(), kept.question()), (done, known, now, question))
            self.check_new(kept)

    def check_new(self, kept):
        """Behind any calls it is as a new one."""
        new = Kept(kept.question(), kept.tables())
        before = kept.done()
        self.assertEqual((kept.shape(), kept.paper(), kept.many()), (new.shape(), new.paper(), new.many()))
        self.assertLessEqual(kept.done() - before, new.done())
        self.assertEqual(new.shape(), run(kept.question(), kept.tables())[0])

    def test_no_looks_that_may_not_change(self):
        draw = drawing(401)
        for question, tables in drawn_cases(402, 60):
            kept = Kept(question, tables)
            kept.shape()
            for _ in range(12):
                word, name, row = drawn_change(draw, kept.tables())
                touched = [look for look in kept.known() if may_change(question, look, name, row)]
                before = kept.done()
                kept.put(name, row) if word == "put" else kept.take(name, row)
                kept.shape()
                if not touched:
                    self.assertEqual(kept.done(), before)

    def test_many_and_has(self):
        for question, tables in drawn_cases(403, 60, most_columns=3):
            kept = Kept(question, tables)
            answers = plain_answers(question, tables)
            self.assertEqual((kept.done(), kept.many()), (0, len(answers)))
            self.assertEqual(kept.done(), len(plain_run(question, tables)[2]))
            for point in answers[:10]:
                self.assertIs(kept.has(point), True)
                other = point[:-1] + (point[-1] + 1,)
                self.assertIs(kept.has(other), other in answers)

    def test_has_does_the_looks(self):
        kept = Kept(QUESTION, TABLES)
        self.assertEqual([kept.has((3, 7)), kept.done(), kept.has((3, 2)), kept.has((10 ** 39, 2)), kept.done()],
                         [True, 23, False, False, 23])

    def test_what_is_known_stays(self):
        # What was looked at once, and is not needed now, is known still when it is needed again.
        kept = Kept(QUESTION, TABLES)
        kept.shape()
        kept.take("r", (3,))
        kept.shape()
        before = kept.done()
        kept.put("r", (3,))
        kept.shape()
        fresh = kept.done() - before
        self.assertTrue(0 < fresh < 5, fresh)
        self.assertEqual(kept.paper(), Kept(QUESTION, TABLES).paper())

    def test_tables_that_no_atom_names(self):
        kept = Kept(QUESTION, {"zz": (1, ()), **TABLES})
        self.assertEqual(list(kept.tables()), ["r", "s", "u", "zz"])
        kept.shape()
        known = kept.known()
        self.assertEqual([kept.put("zz", (5,)), kept.put("zz", (5,)), kept.tables()["zz"], kept.take("zz", (6,))],
                         [True, False, (1, ((5,),)), False])
        self.assertEqual((kept.known(), kept.shape(), kept.done()), (known, Kept(QUESTION, TABLES).shape(), 23))

    def test_it_copies(self):
        tables = dict(TABLES)
        kept = Kept(QUESTION, tables)
        tables.clear()
        kept.tables().clear()
        self.assertEqual(kept.tables(), TABLES)
        kept.shape()
        kept.known().clear()
        self.assertEqual(len(kept.known()), 23)
        other = Kept(QUESTION, kept.tables())
        kept.put("r", (9,))
        self.assertEqual((other.tables(), other.known()), (TABLES, {}))


class TestErrors(unittest.TestCase):
    def fails(self, expected, function, *arguments):
        with self.assertRaises(LookError) as caught:
            function(*arguments)
        self.assertIs(type(caught.exception), type(expected))
        self.assertEqual(vars(caught.exception), vars(expected))

    def test_new_ones(self):
        self.fails(NotNested(), Kept, CROSSED, TABLES)
        self.fails(NotNested(), Kept, CROSSED, {})
        self.fails(NotFit(0), Kept, QUESTION, {})
        self.fails(NotFit(1), Kept, QUESTION, {**TABLES, "s": (1, ()), "u": (1, ())})
        self.fails(NotFit(2), Kept, QUESTION, {"r": TABLES["r"], "s": TABLES["s"]})
        self.fails(Wrong(0), Kept, (), None)
        self.fails(Wrong(1), Kept, CROSSED, None)

    def test_any_value(self):
        for thing in any_values():
            self.assertFalse(is_question(thing))
            self.fails(Wrong(0), Kept, thing, TABLES)
            self.fails(Wrong(0), Kept, thing, thing)
            if is_tables(thing):
                self.fails(NotFit(0), Kept, QUESTION, thing)
            else:
                self.fails(Wrong(1), Kept, QUESTION, thing)
            kept = Kept(QUESTION, TABLES)
            held = copy.deepcopy(kept.tables())
            for change in (kept.put, kept.take):
                self.fails(NoTable(thing) if is_name(thing) else Wrong(0), change, thing, (1,))
                self.fails(NoTable("zz") if is_row(thing) else Wrong(1), change, "zz", thing)
            self.fails(Wrong(0), kept.has, thing)
            self.assertEqual((kept.tables(), kept.known(), kept.done()), (held, {}, 0))

    def test_rows_and_points(self):
        kept = Kept(QUESTION, TABLES)
        for change in (kept.put, kept.take):
            self.fails(NoTable("t"), change, "t", (1, 2, 3))
            self.fails(BadRow("r", (1, 2)), change, "r", (1, 2))
            self.fails(Wrong(1), change, "t", [1])
            self.fails(Wrong(1), change, "r", (True,))
            self.fails(Wrong(0), change, "R", None)
        for point in ((1,), (1, 2, 3), [1, 2], (1, True), (1, "2"), (None, 2)):
            self.fails(Wrong(0), kept.has, point)
        self.assertEqual((kept.tables(), kept.done()), (TABLES, 0))


if __name__ == "__main__":
    unittest.main()
