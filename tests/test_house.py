"""[41], [10], [13], [17], [19], [21], [3], [4]: a house of tables and questions, wherever power fails."""

import copy
import unittest

from enoughlooks.counting import many_of
from enoughlooks.disk import Disk
from enoughlooks.engine import measured
from enoughlooks.errors import BadRow, LookError, NoName, NoTable, NoText, NotFit, NotNested, PowerCut, TooMany, Twice, Wrong
from enoughlooks.house import House
from enoughlooks.journal import idle_paths, is_sound
from enoughlooks.reader import read_question, show_question
from enoughlooks.shapes import points_of
from enoughlooks.store import Store
from plain_house import PlainHouse
from plain_questions import plain_answers
from values import any_values, ascending, deep_list, drawing

TEXTS = {
    "q": ["has r a b\nhas s a", "has r b a\nnot s a", "columns b a\nhas r a b\nhas s b\nrange a 1 3"],
    "p": ["has s x\nhas t y", "has s x\nhas t y\nrange x 1 1", "has t y\nrange y - 2"],
}
START = [("table", "r", 2), ("put", "r", (1, 5)), ("put", "r", (2, 7)), ("table", "s", 1), ("put", "s", (1,)), ("table", "t", 1)]


def started():
    """A house, and what it should be, with two questions."""
    house, plain = House({}), PlainHouse()
    changes = START + [("question", "q", TEXTS["q"][0]), ("question", "p", TEXTS["p"][0])]
    house.commit(changes)
    plain.commit(changes)
    return house, plain


def drawn_changes(draw, plain):
    """Changes that can be made."""
    widths = {name: table[0] for name, table in plain.tables.items()}
    named = set(plain.questions)
    changes = []
    for _ in range(draw.randrange(1, 5)):
        chance = draw.random()
        missing = [name for name in "rst" if name not in widths]
        if missing and chance < 0.5:
            widths[missing[0]] = draw.choice([2, 2, 2, 1]) if missing[0] == "r" else draw.choice([1, 1, 1, 2])
            changes.append(("table", missing[0], widths[missing[0]]))
        elif chance < 0.06 and widths:
            name = draw.choice(sorted(widths))
            del widths[name]
            changes.append(("drop", name))
        elif chance < 0.15 and named:
            name = draw.choice(sorted(named))
            named.remove(name)
            changes.append(("forget", name))
        elif chance < 0.3:
            name = draw.choice("qp")
            named.add(name)
            changes.append(("question", name, draw.choice(TEXTS[name])))
        elif widths:
            name = draw.choice(sorted(widths))
            row = tuple(draw.randrange(4) for _ in range(widths[name]))
            changes.append((draw.choice(["put", "put", "take"]), name, row))
    return changes or [("table", "x" + str(plain.commits), 1)]


class Houses(unittest.TestCase):
    def same(self, house, plain):
        """Compares all that a house only tells."""
        self.assertEqual((house.tables(), house.questions(), house.done(), house.commits()),
                         (plain.tables, plain.questions, plain.done, plain.commits))
        self.assertTrue(ascending(house.questions()) and ascending(house.tables()))

    def asks(self, house, plain, names="qp"):
        """Asks all questions, and compares what comes and how many LOOKS it took."""
        for name in names:
            if name not in plain.questions:
                self.fails(NoName(name), house.answer, name)
            elif not plain.fits(name):
                unfit = [its not in plain.tables or plain.tables[its][0] != len(columns) for word, its,
                         columns in plain.questions[name][1]]
                self.fails(NotFit(unfit.index(True)), house.answer, name)
            else:
                self.assertEqual(house.answer(name), plain.answer(name))
            self.assertEqual(house.done(), plain.done)

    def fails(self, expected, function, *arguments):
        with self.assertRaises(LookError) as caught:
            function(*arguments)
        self.assertIs(type(caught.exception), type(expected))
        self.assertEqual(vars(caught.exception), vars(expected))


class TestCommits(Houses):
    def test_drawn(self):
        draw = drawing(41)
        for _ in range(25):
            house, plain = started()
            for _ in range(12):
                changes = drawn_changes(draw, plain)
                held = copy.deepcopy(changes)
                house.commit(draw.choice([changes, tuple(changes)]))
                self.assertEqual(changes, held)
                plain.commit(changes)
                self.same(house, plain)
                if draw.random() < 0.6:
                    self.asks(house, plain, draw.choice(["qp", "q", "p"]))
                if draw.random() < 0.1:
                    house.power()
                    plain.known.clear()

    def test_answers_points_and_measures(self):
        house, plain = started()
        house.commit([("put", "s", (2,)), ("put", "t", (4,)), ("put", "t", (3,))])
        tables = house.tables()
        for name, question in house.questions().items():
            before = house.done()
            self.assertEqual(house.measure(name), measured(question, tables))
            self.assertEqual(house.done(), before)
            self.assertEqual(house.points(name), tuple(sorted(plain_answers(question, tables))))
            self.assertEqual(house.done() - before, house.measure(name)[2])
            self.assertEqual(house.points(name), points_of(question, house.answer(name)[0]))
            self.assertEqual(house.done() - before, house.measure(name)[2])

    def test_a_question_in_another_text_is_the_same(self):
        house, plain = started()
        self.asks(house, plain)
        changes = [("question", "q", "  columns  a b # same\n\nhas r a b\nhas s a  ")]
        house.commit(changes)
        plain.commit(changes)
        self.same(house, plain)
        self.asks(house, plain)
        # Its text stands as it is shown.
        notes = Store(house.files()).notes()
        self.assertEqual(notes["q"], show_question(read_question(TEXTS["q"][0])))

    def test_forgotten_and_made_again(self):
        text = TEXTS["q"][0]
        for commits, known in [([[("forget", "q"), ("question", "q", text)]], True), ([[("forget", "q")], [("question", "q", text)]],
                                                                                      False),
                               ([[("question", "q", TEXTS["q"][1])], [("question", "q", text)]], False),
                               ([[("question", "q", TEXTS["q"][1]), ("question", "q", text)]], True)]:
            house, plain = started()
            self.asks(house, plain)
            done = house.done()
            for changes in commits:
                house.commit(changes)
                plain.commit(changes)
            self.asks(house, plain)
            self.assertIs(house.done() == done, known)

    def test_a_table_that_goes_and_comes(self):
        house, plain = started()
        self.asks(house, plain)
        for changes in [[("drop", "s")], [("table", "s", 1), ("put", "s", (1,))], [("drop", "s"), ("table", "s", 1), ("put", "s", (1,))],
                        [("drop", "t"), ("table", "t", 2)], [("drop", "t"), ("table", "t", 1)]]:
            house.commit(changes)
            plain.commit(changes)
            self.same(house, plain)
            self.asks(house, plain)

    def test_no_looks_but_what_changed(self):
        house, plain = started()
        house.points("q")
        done = house.done()
        house.commit([("table", "zz", 1), ("put", "zz", (5,)), ("put", "t", (5,))])
        self.assertEqual([house.points("q"), house.done() - done], [((1, 5),), 0])


class TestNotes(Houses):
    def test_notes_that_are_no_questions(self):
        store = Store({})
        crossed = "has r a\nhas s a b\nhas t b"
        store.commit([("note", "a", "has s x"), ("note", "b", "any text"), ("note", "c", crossed), ("note", "d", ""), ("note", "e", "has s"),
                      ("note", "f", "# no\n\n has   s  x\nrange x 1 -"), ("table", "s", 1), ("put", "s", (1,))])
        house = House(store.files())
        self.assertEqual(list(house.questions()), ["a", "f"])
        self.assertEqual(house.questions()["f"], (("x",), (("has", "s", ("x",)),), (("x", 1, None),)))
        self.assertEqual([house.points("a"), house.points("f")], [((1,),), ((1,),)])
        for name in "bcde":
            for ask in (house.answer, house.points, house.measure, lambda name: house.view(name, "v")):
                self.fails(NoName(name), ask, name)
        # Such a note can be forgotten, or be a question then; all others stay as they are.
        house.commit([("forget", "b"), ("question", "c", "has s z")])
        self.assertEqual(list(house.questions()), ["a", "c", "f"])
        self.assertEqual(Store(house.files()).notes(), {"a": "has s x", "c": "columns z\nhas s z", "d": "", "e": "has s",
                                                        "f": "# no\n\n has   s  x\nrange x 1 -"})

    def test_files(self):
        house, plain = started()
        other = House(house.files())
        self.assertEqual((other.tables(), other.questions(), other.commits(), other.done()), (plain.tables, plain.questions, 1, 0))
        files = {"mine": "kept"}
        kept = House(files)
        kept.commit(START)
        self.assertEqual((files, kept.files()["mine"]), ({"mine": "kept"}, "kept"))


class TestErrors(Houses):
    def test_texts_come_first(self):
        house, plain = started()
        bad, crossed = ("question", "z", "has r a\nhas"), ("question", "z", "has r a\nhas s a b\nhas t b")
        none, lost = ("put", "none", (1,)), ("forget", "none")
        for changes, expected in [
            ([none, bad], NoText(1)), ([crossed, bad], NotNested()), ([bad, crossed], NoText(1)), ([none, crossed], NotNested()),
            ([none, lost], NoTable("none")), ([lost, none], NoName("none")), ([("table", "r", 1)], Twice("r")),
            ([("put", "r", (1,))], BadRow("r", (1,))), ([("question", "z", "")], NoText(1)), ([("question", "z", "\n\n")], NoText(3)),
            ([("put", "r", (9, 9)), ("question", "p", "has r a"), none], NoTable("none")), ([("question", "z", "a\tb")], NoText(0)),
        ]:
            files = house.files()
            self.fails(expected, house.commit, changes)
            self.assertEqual(house.files(), files)
            self.same(house, plain)
        house.fuse(0, ())
        self.fails(PowerCut(), house.commit, [("drop", "r")])
        self.fails(PowerCut(), house.commit, [none])
        self.fails(NoText(1), house.commit, [none, bad])
        self.fails(NotNested(), house.commit, [crossed])
        self.asks(house, plain)

    def test_unfit(self):
        house = House({})
        house.commit([("question", "q", "has r a\nhas s a b\nhas t a")])
        self.fails(NotFit(0), house.answer, "q")
        house.commit([("table", "r", 1), ("table", "s", 1), ("table", "t", 2)])
        for ask in (house.answer, house.points, house.measure, lambda name: house.view(name, "v")):
            self.fails(NotFit(1), ask, "q")
            self.fails(NoName("x"), ask, "x")
        self.assertEqual((house.commits(), house.done()), (2, 0))

    def test_any_value(self):
        house, plain = started()
        for thing in any_values():
            if type(thing) is dict and is_sound(thing):
                House(thing)
            else:
                self.fails(Wrong(0), House, thing)
            for changes in ([thing], (thing,), [("question", "q", "has r a b"), thing], [("question", thing, "has r a b")],
                            [("forget", thing)]):
                self.fails(Wrong(0), house.commit, changes)
            if not isinstance(thing, str):
                self.fails(Wrong(0), house.commit, [("question", "q", thing)])
            if thing not in ([], ()) or type(thing) not in (list, tuple):
                self.fails(Wrong(0), house.commit, thing)
            self.fails(Wrong(0), house.view, thing, "v")
            self.fails(Wrong(0), house.view, thing, thing)
            self.fails(Wrong(1), house.view, "q", thing)
        for bad in [("note", "n", "has r a b"), ("question", "q"), ("forget", "q", "x"), ("question", "Q", "has r a b"), ("question", 1, "no text"), ("forget", "Q"), ["forget", "q"],
                    ("drop", "R"), ("table", "x", 0), ("put", "r", ()), ("put", "r", (True, 1)), ("view", "q", "v"), deep_list(3)]:
            self.fails(Wrong(0), house.commit, [("put", "none", (1,)), bad])
            self.fails(Wrong(0), house.commit, [("question", "z", "no text"), bad])
        for files in ({"root": "x"}, {"Root": ""}, [], None):
            self.fails(Wrong(0), House, files)
        self.same(house, plain)

    def test_no_changes(self):
        house, plain = started()
        house.commit([])
        house.commit(())
        self.assertEqual((house.commits(), house.questions(), house.tables()), (3, plain.questions, plain.tables))


class TestPower(Houses):
    changes = [("put", "r", (1, 6)), ("take", "s", (1,)), ("question", "p", TEXTS["p"][2]), ("put", "t", (2,))]

    def cut_commits(self, house, plain, make, after):
        """Twins of a house, cut at each deed of a commit, with what they should be."""
        draw = drawing(410)
        for fates in ((), ("lost",) * 30, tuple(draw.choice(["done", "lost", draw.randrange(60)]) for _ in range(30))):
            many = 0
            power = False
            while not power:
                cut, told = house.twin(), plain.copy()
                cut.fuse(many, fates)
                try:
                    make(cut)
                except PowerCut:
                    self.assertIs(cut.has_power(), False)
                power = cut.has_power()
                if power or cut.commits() > plain.commits:
                    after(told)
                yield cut, told
                many += 1

    def test_in_each_deed_of_a_commit(self):
        for asked in ("qp", "q", ""):
            house, plain = started()
            self.asks(house, plain, asked)
            seen = set()
            for cut, told in self.cut_commits(house, plain, lambda each: each.commit(self.changes),
                                              lambda each: each.commit(self.changes)):
                self.assertTrue(is_sound(cut.files()))
                seen.add((cut.has_power(), told.commits))
                self.same(cut, told)
                # What only tells is told without power, and what still holds is known.
                self.asks(cut.twin(), told.copy())
                self.fails_without_power(cut)
                cut.power()
                told.known.clear()
                self.same(cut, told)
                self.asks(cut, told)
                self.mended(cut, told)
            self.assertEqual(seen, {(False, 1), (False, 2), (True, 2)})

    def fails_without_power(self, house):
        if house.has_power():
            return
        files, done = house.files(), house.done()
        self.fails(PowerCut(), house.commit, [("put", "r", (7, 7))])
        self.fails(PowerCut(), house.mend)
        self.fails(PowerCut(), house.view, "q", "v")
        self.assertEqual((house.files(), house.done()), (files, done))

    def mended(self, house, told):
        house.mend()
        files = house.files()
        self.assertEqual(idle_paths(files), ())
        house.mend()
        self.assertEqual(house.files(), files)
        self.same(house, told)
        house.commit([("put", "r", (3, 3))])
        told.commit([("put", "r", (3, 3))])
        self.same(house, told)
        self.asks(house, told)

    def test_in_each_deed_of_a_mending(self):
        house, plain = started()
        self.asks(house, plain)
        house.fuse(2, ())
        self.fails(PowerCut(), house.commit, self.changes)
        house.power()
        plain.known.clear()
        self.asks(house, plain)
        for cut, told in self.cut_commits(house, plain, lambda each: each.mend(), lambda each: None):
            self.same(cut, told)
            self.asks(cut.twin(), told.copy())
            cut.power()
            told.known.clear()
            self.mended(cut, told)

    def test_in_each_deed_of_a_view(self):
        house, plain = started()
        self.asks(house, plain, "p")
        put = [("table", "v", 2), ("put", "v", (1, 5))]

        def after(told):
            told.commit(put)
        seen = set()
        for cut, told in self.cut_commits(house, plain, lambda each: each.view("q", "v"), after):
            seen.add((cut.has_power(), told.commits))
            if cut.has_power():
                told.answer("q")
            # If power failed, the looks for the view count as not done.
            self.same(cut, told)
            self.asks(cut, told)
        self.assertEqual(seen, {(False, 1), (False, 2), (True, 2)})

    def test_a_view_that_is_cut_keeps_what_was_known(self):
        house, plain = started()
        self.asks(house, plain, "q")
        done = house.done()
        house.fuse(1, ())
        self.fails(PowerCut(), house.view, "p", "s")
        self.assertEqual([house.done() - done, house.points("q"), house.done() - done], [0, ((1, 5),), 0])

    def test_power_takes_away_what_is_known(self):
        house, plain = started()
        self.asks(house, plain)
        first = house.done()
        house.power()
        plain.known.clear()
        self.asks(house, plain)
        self.assertEqual(house.done(), 2 * first)

    def test_methods_that_only_change_return_none(self):
        house = House({})
        self.assertEqual([house.commit(START), house.mend(), house.fuse(50, ()), house.power(),
                          house.commit([("question", "q", "has s a")]),
                          house.view("q", "v")], [None] * 6)


class TestViews(Houses):
    def test_a_view(self):
        house, plain = started()
        self.asks(house, plain, "q")
        house.view("q", "v")
        self.assertEqual((house.tables()["v"], house.commits()), ((2, ((1, 5),)), 2))
        # It goes by answer, so its looks are done once.
        other, told = started()
        other.view("q", "v")
        told.answer("q")
        self.assertEqual(other.done(), told.done)
        self.assertEqual([other.points("q"), other.done()], [((1, 5),), told.done])

    def test_a_view_in_the_place_of_a_table(self):
        house, plain = started()
        self.asks(house, plain)
        house.view("q", "t")
        plain.commit([("drop", "t"), ("table", "t", 2), ("put", "t", (1, 5))])
        self.same(house, plain)
        self.asks(house, plain)

    def test_a_view_in_the_place_of_its_own_table(self):
        house, plain = started()
        house.view("q", "r")
        plain.answer("q")
        plain.commit([("drop", "r"), ("table", "r", 2), ("put", "r", (1, 5))])
        self.same(house, plain)
        self.asks(house, plain)
        house.view("q", "s")
        plain.commit([("drop", "s"), ("table", "s", 2), ("put", "s", (1, 5))])
        self.same(house, plain)
        self.asks(house, plain)

    def test_a_view_by_which_its_question_does_not_fit(self):
        house, plain = started()
        house.view("q", "s")
        plain.answer("q")
        for changes in [[("drop", "s"), ("table", "s", 2), ("put", "s", (1, 5))], [("drop", "s"), ("table", "s", 1), ("put", "s", (1,))]]:
            plain.commit(changes)
        house.commit(changes)
        self.same(house, plain)
        self.asks(house, plain)

    def test_no_answers(self):
        house, plain = started()
        house.view("p", "v")
        self.assertEqual(house.tables()["v"], (2, ()))

    def test_views_of_views(self):
        house = House({})
        house.commit([("table", "r", 1), ("put", "r", (1,)), ("put", "r", (2,)), ("question", "q", "has r a\nrange a 2 -"),
                      ("question", "p", "has v a\nhas r b")])
        house.view("q", "v")
        house.view("p", "w")
        self.assertEqual(house.tables()["w"], (2, ((2, 1), (2, 2))))
        house.commit([("take", "r", (2,))])
        self.assertEqual([house.tables()["w"], house.points("p")], [(2, ((2, 1), (2, 2))), ((2, 1),)])

    def test_a_crossing_join_in_two_steps(self):
        edges = [(1, 2), (2, 3), (3, 1), (2, 1), (1, 4)]
        house = House({})
        house.commit([("table", name, 2) for name in "rst"] + [("put", name, edge) for name in "rst" for edge in edges])
        self.fails(NotNested(), house.commit, [("question", "q", "has r a b\nhas s b c\nhas t c a")])
        house.commit([("question", "two", "columns b a c\nhas r a b\nhas s b c"), ("question", "all",
                                                                                   "columns c a b\nhas v b a c\nhas t c a")])
        house.view("two", "v")
        expected = {(c, a, b) for a, b in edges for other, c in edges if other == b and (c, a) in edges}
        self.assertEqual(house.points("all"), tuple(sorted(expected)))

    def test_too_many(self):
        house = House({})
        rows = [("put", name, (value,)) for name in "rs" for value in range(20)]
        house.commit([("table", "r", 1), ("table", "s", 1), *rows, ("question", "q", "has r a\nhas s b\nrange b - 9"),
                      ("question", "p", "has r a\nhas s b"), ("question", "o", "has r a\nhas s b\nrange a 0 2\nrange b 0 66")])
        house.view("q", "v")
        self.assertEqual(len(house.tables()["v"][1]), 200)
        done, files = house.done(), house.files()
        self.fails(TooMany(200), house.view, "p", "v")
        house.commit([("put", "r", (100,)), ("take", "s", (19,)), ("take", "s", (18,))])
        self.fails(TooMany(200), house.view, "q", "v")
        self.assertEqual((house.done(), len(files) > 0), (done, True))
        house.fuse(0, ())
        self.fails(TooMany(200), house.view, "p", "v")
        self.fails(PowerCut(), house.view, "o", "v")
        self.fails(TooMany(200), house.view, "p", "v")
        self.fails(NoName("x"), house.view, "x", "v")
        self.assertEqual(house.done(), done)
        house.answer("p")
        self.assertGreater(house.done(), done)

    def test_just_above_and_at_the_bound(self):
        house = House({})
        house.commit([("table", "r", 1)] + [("put", "r", (value,)) for value in range(200)] + [("question", "q", "has r a"),
                     ("table", "t", 1), ("put", "t", (1,))])
        house.view("q", "v")
        house.commit([("put", "r", (200,))])
        self.fails(TooMany(200), house.view, "q", "v")
        self.assertEqual(len(house.tables()["v"][1]), 200)

    def test_very_many(self):
        house = House({})
        names = "abcdef"
        house.commit([("table", name, 1) for name in names] + [("put", name, (value,)) for name in names for value in range(30)]
                     + [("question", "q", "\n".join(f"has {name} {name}" for name in names))])
        self.assertEqual(many_of(house.answer("q")[0]), 30 ** 6)
        self.fails(TooMany(200), house.view, "q", "v")


class TestTwins(Houses):
    def test_independent(self):
        house, plain = started()
        self.asks(house, plain, "q")
        twin, same = house.twin(), plain.copy()
        self.assertIs(twin == house, True)
        self.asks(twin, same)
        twin.commit([("put", "s", (2,))])
        same.commit([("put", "s", (2,))])
        self.asks(twin, same)
        self.same(house, plain)
        self.assertIs(twin == house, False)
        self.asks(house, plain)
        house.fuse(1, ())
        self.assertEqual(House({}).twin().commits(), 0)
        cut = house.twin()
        self.fails(PowerCut(), cut.commit, [("drop", "r")])
        self.assertEqual((cut.has_power(), house.has_power(), cut == house), (False, True, False))

    def test_equal(self):
        house, plain = started()
        other = House(house.files())
        self.assertIs(house == other, True)
        # What is known, and how many looks were done, does not matter.
        house.points("q")
        self.assertIs(house == other, True)
        self.assertIs(house != other, False)
        other.commit([("put", "s", (1,))])
        self.assertIs(house == other, False)
        for thing in [*any_values(), Store(house.files()), Disk(house.files()), house.files(), house.tables()]:
            self.assertIs(house == thing, False)
            self.assertIs(thing == house, False)
        self.assertIs(House({}) == Store({}), False)
        cut = House({})
        cut.fuse(0, ())
        self.fails(PowerCut(), cut.commit, START)
        self.assertEqual([cut == House({}), cut.files()], [False, {}])

    def test_what_is_told_is_new(self):
        house, plain = started()
        for told in (house.tables(), house.questions(), house.files()):
            told.clear()
        self.same(house, plain)
        self.assertNotEqual(house.files(), {})


if __name__ == "__main__":
    unittest.main()
