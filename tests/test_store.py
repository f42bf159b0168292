"""[19], [10], [4]: a store, and what is left of it wherever power fails."""

import unittest

from enoughlooks.disk import Disk
from enoughlooks.errors import BadRow, LookError, NoName, NoTable, PowerCut, Twice, Wrong
from enoughlooks.journal import commit_deeds, idle_paths, is_sound, mend_deeds, root_in, tables_in
from enoughlooks.store import Store
from enoughlooks.tables import changed, nearest_by_all
from values import PAIRS, any_values, drawing, drawn_edits

FATES = ["done", "lost", 0, 1, 3, 7, 500]


def told(store):
    return store.tables(), store.notes(), store.commits()


def drawn_changes(draw, tables, notes):
    """CHANGES that can be made, and the TABLES and notes behind them."""
    changes = []
    for _ in range(draw.choice([0, 1, 2, 4, 12])):
        name = draw.choice(["r", "s"])
        word = draw.choice(["edit"] * 6 + ["drop", "note", "note", "forget"])
        if word == "note":
            change = ("note", name, draw.choice(["", "a\nb", "\\", "has r a"]))
            notes = {**notes, name: change[2]}
        elif word == "forget" and name in notes:
            change = ("forget", name)
            notes = {other: notes[other] for other in notes if other != name}
        else:
            if name not in tables:
                change = ("table", name, draw.choice([1, 2]))
            elif word == "drop":
                change = ("drop", name)
            else:
                row = tuple(draw.randrange(9) for _ in range(tables[name][0]))
                change = (draw.choice(["put", "put", "put", "take"]), name, row)
            tables = changed(tables, [change])
        changes.append(change)
    return changes, tables, notes


def grown_store(draw, count):
    store, tables, notes = Store({"mine": "kept", "r/x": "other"}), {}, {}
    for _ in range(count):
        changes, tables, notes = drawn_changes(draw, tables, notes)
        store.commit(changes)
    return store


class TestStore(unittest.TestCase):
    def test_wrong_files(self):
        bad = [{"root": ""}, {"root": "commits 1\ntable r 1 0"}, {"a": "\t"}, {"A": ""}, {"root": "commits 1\ntable r 1 0", "r/0": "leaf "}]
        for thing in [*any_values(), *bad]:
            if thing != {}:
                with self.assertRaises(Wrong) as caught:
                    Store(thing)
                self.assertEqual(caught.exception.place, 0)

    def test_wrong_changes(self):
        store = Store({})
        store.commit([("table", "r", 1)])
        store.fuse(0, ("lost",))
        self.assertRaises(PowerCut, store.commit, [])
        before = store.files()
        bad = [("edit", "r"), ("put", "r", ()), ("put", "r", [1]), ("note", "q"), ("note", "q", "\t"), ("note", "q", 1), ("note", "Q", ""),
               ("forget",), ("forget", "q", 1), ("forget", 1), ["drop", "r"], ("table", "r", 0), ("table", "r", True), None,
               ("question", "q", ""), ("note", "q", "", 1)]
        for changes in [*[thing for thing in any_values() if thing not in ([], ())], *[[("drop", "r"), change] for change in bad],
                        {("drop", "r"): 1}, ("drop", "r"), "drop r", *bad]:
            with self.assertRaises(Wrong, msg=repr(changes)) as caught:
                store.commit(changes)
            self.assertEqual(caught.exception.place, 0)
        self.assertEqual(store.files(), before)

    def test_what_it_tells(self):
        store = Store({})
        self.assertEqual(told(store), ({}, {}, 0))
        self.assertIsNone(store.commit([("table", "s", 2), ("note", "q", "text"), ("table", "r", 1)]))
        self.assertIsNone(store.commit(tuple(("put", "s", row) for row in PAIRS[1])))
        self.assertEqual(told(store), ({"r": (1, ()), "s": PAIRS}, {"q": "text"}, 2))
        self.assertEqual(list(store.tables()), ["r", "s"])
        self.assertIsNone(store.commit([]))
        self.assertEqual(store.commits(), 3)
        again = Store(store.files())
        self.assertEqual(told(again), told(store))

    def test_what_is_returned_is_new(self):
        files = {"mine": "kept"}
        store = Store(files)
        store.commit([("table", "r", 1), ("note", "q", "")])
        files.clear()
        before = store.files()
        store.files().clear()
        store.tables().clear()
        store.notes().clear()
        self.assertEqual(store.files(), before)
        self.assertEqual(told(store), ({"r": (1, ())}, {"q": ""}, 1))

    def test_nearest(self):
        store = Store({})
        rows = tuple((a, b) for a in range(0, 12, 3) for b in range(0, 9, 2))
        store.commit([("table", "s", 2), ("table", "e", 1)] + [("put", "s", row) for row in rows])
        for prefix in [(), (0,), (1,), (9,), (10,)]:
            for x in [None, *range(-1, 13)]:
                self.assertEqual(store.nearest("s", prefix, x), nearest_by_all(rows, prefix, x))
        self.assertEqual(store.nearest("e", (), None), (False, None, None))
        with self.assertRaises(NoTable) as caught:
            store.nearest("r", (), 1)
        self.assertEqual(caught.exception.name, "r")

    def test_errors_ahead_of_any_deed(self):
        files = {"r/9": "idle", "root-new": "old"}
        store = Store(files)
        for changes, kind in [([("forget", "q")], NoName), ([("drop", "r")], NoTable), ([("table", "t", 1), ("table", "t", 2)], Twice),
                              ([("table", "t", 1), ("put", "t", (1, 2)), ("forget", "q")], BadRow)]:
            with self.assertRaises(LookError) as caught:
                store.commit(changes)
            self.assertIs(type(caught.exception), kind)
            self.assertEqual(store.files(), {"r/9": "idle", "root-new": "old"})
        store.fuse(0, ())
        self.assertRaises(NoName, store.commit, [("forget", "q")])
        self.assertIs(store.has_power(), True)
        self.assertRaises(PowerCut, store.commit, [("table", "t", 1)])
        self.assertIs(store.has_power(), False)
        self.assertRaises(PowerCut, store.commit, [("forget", "q")])
        self.assertRaises(PowerCut, store.commit, [])
        self.assertRaises(PowerCut, store.mend)
        self.assertEqual(store.files(), files)

    def test_commit_mends_first(self):
        store = Store({"r/9": "idle", "root-new": "old", "mine": "kept", "r/09": "other"})
        store.commit([("table", "r", 1)])
        self.assertEqual(store.files(), {"mine": "kept", "r/0": "leaf", "r/09": "other", "root": "commits 1\ntable r 1 0"})
        for many in range(3):
            store = Store({"r/9": "idle", "root-new": "old"})
            store.fuse(many, ())
            self.assertRaises(PowerCut, store.commit, [("table", "r", 1)])
            self.assertEqual(sorted(store.files()), sorted(["root-new", "r/9"][many:]))

    def test_mend_without_power(self):
        store = Store({})
        self.assertIsNone(store.mend())
        store.fuse(0, ())
        self.assertIsNone(store.mend())
        self.assertIs(store.has_power(), True)
        self.assertRaises(PowerCut, store.commit, [])
        self.assertRaises(PowerCut, store.mend)
        self.assertIsNone(store.power())
        self.assertIs(store.has_power(), True)
        self.assertIsNone(store.mend())

    def test_what_only_tells_is_told_without_power(self):
        store = Store({})
        store.commit([("table", "r", 1), ("put", "r", (5,)), ("note", "q", "x")])
        store.fuse(0, ("lost",) * 9)
        self.assertRaises(PowerCut, store.commit, [("drop", "r")])
        self.assertEqual(told(store), ({"r": (1, ((5,),))}, {"q": "x"}, 1))
        self.assertEqual(store.nearest("r", (), 5), (True, None, None))

    def test_twin_and_equal(self):
        store = Store({"mine": "kept"})
        store.commit([("table", "r", 1)])
        store.fuse(3, ("lost",))
        twin = store.twin()
        self.assertIs(type(twin), Store)
        self.assertIs(twin == store, True)
        self.assertIs(twin != store, False)
        self.assertRaises(PowerCut, twin.commit, [("put", "r", (1,))])
        self.assertIs(twin == store, False)
        self.assertIs(store.has_power(), True)
        self.assertIs(twin.has_power(), False)
        self.assertEqual(store.tables(), {"r": (1, ())})
        other = store.twin()
        store.power()
        store.commit([("put", "r", (1,))])
        self.assertRaises(PowerCut, other.commit, [("put", "r", (1,))])
        self.assertIs(other == twin, True)
        self.assertIs(Store(twin.files()) == twin, False)
        twin.power()
        self.assertIs(Store(twin.files()) == twin, True)
        for thing in [*any_values(), store.files(), Disk(store.files())]:
            self.assertIs(store == thing, False)

    def test_edits_as_changed(self):
        for seed in range(6):
            draw = drawing(seed)
            edits, tables, store = drawn_edits(draw, 120), {}, Store({})
            while edits:
                size = draw.choice([1, 3, 10])
                store.commit(edits[:size])
                tables = changed(tables, edits[:size])
                edits = edits[size:]
                self.assertEqual(store.tables(), tables)
                self.assertEqual(mend_deeds(store.files()), [])


class TestPowerFails(unittest.TestCase):
    def check_left(self, store, before, behind):
        """What a cut has left: told ahead of the commit, or behind it; and what mending makes of it."""
        files = store.files()
        self.assertTrue(is_sound(files))
        self.assertIn(told(store), [before, behind])
        left = told(store)
        self.assertEqual((files["mine"], files["r/x"]), ("kept", "other"))
        store.power()
        store.mend()
        self.assertEqual(idle_paths(store.files()), ())
        self.assertEqual(mend_deeds(store.files()), [])
        self.assertNotIn("root-new", store.files())
        self.assertEqual(told(store), left)
        again = store.files()
        store.mend()
        self.assertEqual(store.files(), again)
        return left

    def test_in_any_deed_of_a_commit(self):
        for seed in range(10):
            draw = drawing(seed)
            store = grown_store(draw, 4)
            before = told(store)
            changes, tables, notes = drawn_changes(draw, before[0], before[1])
            behind = (tables, dict(sorted(notes.items())), before[2] + 1)
            deeds = commit_deeds(store.files(), changes)
            for many in range(len(deeds) + 1):
                for count in range(8):
                    fates = (("lost",) * 60, (0,) * 60, (), ("done",))[count] if count < 4 else tuple(draw.choice(FATES) for _ in range(30))
                    twin = store.twin()
                    twin.fuse(many, fates)
                    if many == len(deeds):
                        twin.commit(changes)
                        self.assertEqual(told(twin), behind)
                        self.assertRaises(PowerCut, twin.commit, [])
                        self.assertEqual(self.check_left(twin, behind, behind), behind)
                        continue
                    self.assertRaises(PowerCut, twin.commit, changes)
                    left = self.check_left(twin, before, behind)
                    if many > [deed[0] for deed in deeds].index("move") + 1:
                        self.assertEqual(left, behind)
                    if many <= [deed[0] for deed in deeds].index("move"):
                        self.assertEqual(left, before)

    def test_in_any_deed_of_a_mending(self):
        for seed in range(6):
            draw = drawing(seed)
            store = grown_store(draw, 4)
            tables = store.tables()
            name = min(tables) if tables else None
            changes = [("put", name, (number,) * tables[name][0]) for number in range(50, 60)] if name else [("table", "r", 1)]
            deeds = commit_deeds(store.files(), changes)
            for many in range(len(deeds)):
                cut = store.twin()
                cut.fuse(many, tuple(draw.choice(FATES) for _ in range(30)))
                self.assertRaises(PowerCut, cut.commit, changes)
                cut.power()
                left, mending = told(cut), mend_deeds(cut.files())
                for place in range(len(mending)):
                    twin = cut.twin()
                    twin.fuse(place, tuple(draw.choice(FATES) for _ in range(30)))
                    self.assertRaises(PowerCut, twin.mend)
                    self.assertEqual(self.check_left(twin, left, left), left)

    def test_again_and_again_without_mending(self):
        for seed in range(60):
            draw = drawing(seed)
            store, tables, notes, commits = Store({"mine": "kept", "r/x": "other"}), {}, {}, 0
            for _ in range(14):
                changes, new_tables, new_notes = drawn_changes(draw, tables, notes)
                if draw.random() < 0.6:
                    store.fuse(draw.randrange(14), tuple(draw.choice(FATES) for _ in range(20)))
                before, behind = (tables, notes, commits), (new_tables, new_notes, commits + 1)
                try:
                    store.commit(changes)
                    self.assertEqual(told(store), behind)
                except PowerCut:
                    self.assertTrue(is_sound(store.files()))
                    self.assertIn(told(store), [before, behind])
                    store.power()
                tables, notes, commits = told(store)
                files = store.files()
                self.assertEqual((files["mine"], files["r/x"]), ("kept", "other"))
                self.assertEqual((tables_in(files), root_in(files)[0]), (tables, commits))
            self.check_left(store, (tables, notes, commits), (tables, notes, commits))


if __name__ == "__main__":
    unittest.main()
