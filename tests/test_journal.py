"""[18], [13], [2]: what stands where, texts read back, sound files, and the deeds of a commit."""

import copy
import unittest

from enoughlooks.disk import done, is_files
from enoughlooks.errors import BadRow, LookError, NoName, NoTable, Twice
from enoughlooks.journal import commit_deeds, idle_paths, is_sound, mend_deeds, page_text, read_page, read_root, root_in
from enoughlooks.journal import root_text, tables_in, tree_in
from enoughlooks.pages import is_page, is_page_tree, rows_of
from enoughlooks.tables import changed
from values import any_values, ascending, drawing, drawn_edits

SIGNS = "".join(chr(number) for number in range(32, 127)) + "\n"
PAGES = [("leaf", ()), ("leaf", ((1,), (1, 2), (30,))), ("leaf", ((-10 ** 39, 0),)), ("node", (((1, 2), 0), ((3, -4), 17))),
         ("node", (((5,), 10 ** 20), ((5,), 0), ((-1, 0, 1), 2), ((7,), 3)))]
ROOTS = [(0, {}, {}), (3, {"r": (1, 4)}, {"q": "a\nb"}), (12, {"a": (7, 0), "b2": (1, 99)}, {"n": "", "o": " ", "p": SIGNS}),
         (1, {}, {"q": "\\n\\\n\\\\n\n\n\\"})]


def stored(edits, size=9):
    """FILES behind commits of so many edits each."""
    files = {"mine": "kept"}
    for begin in range(0, len(edits), size):
        files = done(files, commit_deeds(files, edits[begin:begin + size]))
    return files


def bents(text, draw, count):
    """Texts with one sign otherwise, out, or more."""
    for _ in range(count):
        place = draw.randrange(len(text) + 1)
        sign = draw.choice(SIGNS + "01 \n:-\\")
        yield draw.choice([text[:place] + sign + text[place + 1:], text[:place] + sign + text[place:], text[:place] + text[place + 1:]])


class TestTexts(unittest.TestCase):
    def test_page_text(self):
        shown = ["leaf", "leaf\n1\n1 2\n30", "leaf\n-" + "1" + "0" * 39 + " 0", "node\n0 : 1 2\n17 : 3 -4",
                 "node\n100000000000000000000 : 5\n0 : 5\n2 : -1 0 1\n3 : 7"]
        for page, text in zip(PAGES, shown):
            self.assertEqual(page_text(page), text)
            self.assertEqual(read_page(text), page)

    def test_no_page(self):
        for text in ["", "leaf\n", "\nleaf", "leaf\n1\n", "leaf 1", "leaf\n1\n1", "leaf\n2\n1", "leaf\n 1", "leaf\n1  2", "leaf\n1 ",
                     "leaf\n01", "leaf\n-0", "leaf\n+1", "leaf\n1_0", "leaf\nx", "leaf\n1\n2\n3\n4\n5", "leaf\n\n1", "Leaf", "page\n1",
                     "node", "node\n0 : 1", "node\n0 : 1\n1", "node\n0 : 1\n1 :", "node\n0 : 1\n: 1", "node\n0 : 1\n1: 2",
                     "node\n0 : 1\n-1 : 2", "node\n0 : 1\n01 : 2", "node\n0 : 1\n1 ; 2", "node\n0 : 1\n1 : 2\n", "node\n0 : 1\n1  : 2",
                     "node\n0 : 1\n1 : 2\n2 : 3\n3 : 4\n4 : 5", "node\n1\n2", "leaf\n0 : 1", "leaf\n1\t2", "leaf\n\u0661",
                     "leaf\n" + "9" * 5000]:
            self.assertIsNone(read_page(text), repr(text))

    def test_root_text(self):
        self.assertEqual(root_text(ROOTS[0]), "commits 0")
        self.assertEqual(root_text((5, {"s": (2, 0), "r": (1, 4)}, {"b": "", "a": "x y"})),
                         "commits 5\ntable r 1 4\ntable s 2 0\nnote a x y\nnote b ")
        self.assertEqual(root_text((0, {}, {"q": "\\n\n"})), "commits 0\nnote q \\\\n\\n")
        for root in ROOTS:
            self.assertEqual(read_root(root_text(root)), root)
            self.assertEqual(len(root_text(root).split("\n")), 1 + len(root[1]) + len(root[2]))

    def test_no_root(self):
        for text in ["", "commits", "commits ", "commits -1", "commits 01", "commits 0\n", "0", "Commits 0", "commits 0 ",
                     "commits  0", "commits 0\ntable r 1", "commits 0\ntable r 0 1", "commits 0\ntable r 1 -1",
                     "commits 0\ntable r 1 1 1", "commits 0\ntable R 1 1", "commits 0\ntable r 1  1", "commits 0\ntable r 01 1",
                     "commits 0\ntable s 1 1\ntable r 1 1", "commits 0\ntable r 1 1\ntable r 1 1", "commits 0\nnote q",
                     "commits 0\nnote q a\ntable r 1 1", "commits 0\nnote q a\nnote p a", "commits 0\nnote q a\nnote q a",
                     "commits 0\nnote q \\", "commits 0\nnote q \\a", "commits 0\nnote q \\\\\\", "commits 0\nnote q a\tb",
                     "commits 0\nnote Q a", "commits 0\nnote  a", "commits 0\nx", "commits 0\n\nnote q a", "commits 0\nnote q a\n",
                     "table r 1 1\ncommits 0", "note q a", "commits 0\nnotes q a", "commits 0\nnote q \u00e4", "commits x"]:
            self.assertIsNone(read_root(text), repr(text))

    def test_one_sign_otherwise(self):
        draw = drawing(18)
        for page in PAGES:
            for text in bents(page_text(page), draw, 400):
                other = read_page(text)
                if other is not None:
                    self.assertTrue(is_page(other))
                    self.assertEqual(page_text(other), text)
        for root in ROOTS:
            for text in bents(root_text(root), draw, 400):
                other = read_root(text)
                if other is not None:
                    self.assertEqual(root_text(other), text)
                    self.assertTrue(ascending(other[1]) and ascending(other[2]))

    def test_new_each_time(self):
        one = read_root("commits 0")
        self.assertIsNot(one[1], one[2])
        one[1]["r"] = one[2]["q"] = 0
        self.assertEqual(read_root("commits 0"), (0, {}, {}))
        root_in({})[1]["r"] = 0
        self.assertEqual(root_in({}), (0, {}, {}))


class TestSound(unittest.TestCase):
    def setUp(self):
        edits = [("table", "r", 1), ("table", "s", 2), ("put", "s", (4, 4))] + [("put", "r", (3 * n,)) for n in range(20)]
        self.files = stored(edits)
        self.tree = tree_in(self.files, "r")

    def test_sound(self):
        self.assertIs(is_sound(self.files), True)
        for files in [{}, {"mine": "x"}, {"root": "commits 0"}, {"r/0": "junk", "root-new": "junk"},
                      {**self.files, "r/999": "junk", "root-new": "", "x/0": "leaf"},
                      {"root": "commits 1\ntable r 1 5", "r/5": "leaf"}]:
            self.assertIs(is_sound(files), True, files)

    def test_any_value(self):
        for thing in any_values():
            self.assertIs(is_sound(thing), thing == {}, thing)

    def test_not_sound(self):
        for files in [{"root": ""}, {"root": "commits"}, {"root": "commits 0\n"}, {"root": "commits 0", "A": ""},
                      {"root": "commits 0", "a": "\t"}, {"root": "commits 1\ntable r 1 5"},
                      {"root": "commits 1\ntable r 1 5", "r/5": "leaf\n"}, {"root": "commits 1\ntable r 1 5", "r/05": "leaf"},
                      {"root": "commits 1\ntable r 2 5", "r/5": "leaf\n1"}, {"root": "commits 1\ntable r 1 5", "s/5": "leaf"},
                      {"root": "commits 1\ntable r 1 5", "r/5": "node\n5 : 1\n5 : 1"},
                      {"root": "commits 1\ntable r 1 5", "r/5": "node\n6 : 1\n6 : 1", "r/6": "leaf\n1\n2"},
                      {"root": "commits 1\ntable r 1 " + "9" * 40}]:
            self.assertIs(is_sound(files), False, files)

    def test_a_page_out_or_bent(self):
        many, root, pages = self.tree
        for number in pages:
            path = f"r/{number}"
            text = self.files[path]
            without = {other: self.files[other] for other in self.files if other != path}
            self.assertIs(is_sound(without), False)
            for bent in [text + "\n", text + " ", " " + text, "", text[:-1], text[1:], text.replace("\n", " "), text + "\n-1"]:
                self.assertIs(is_sound({**self.files, path: bent}), False, bent)
            # Where the root is a leaf, there is a tree of its own, and all other pages are idle.
            self.assertIs(is_sound({**self.files, path: "leaf"}), number == root)

    def test_pages_exchanged(self):
        for one in self.tree[2]:
            for other in self.tree[2]:
                if one != other:
                    paths = {f"r/{one}": self.files[f"r/{other}"], f"r/{other}": self.files[f"r/{one}"]}
                    # With another page in the root's place there is a tree, too: the one below that page.
                    self.assertIs(is_sound({**self.files, **paths}), self.tree[1] in (one, other))

    def test_root_bent(self):
        text = self.files["root"]
        place = f"table r 1 {self.tree[1]}"
        self.assertIn(place, text)
        bents = [f"table r 2 {self.tree[1]}", f"table r 1 {self.tree[1] + 1}"]
        bents += [f"table r 1 {number}" for number in self.tree[2] if number != self.tree[1]]
        for number, bent in enumerate(bents):
            # A page within the tree makes a tree of its own: what is above it is idle then.
            self.assertIs(is_sound({**self.files, "root": text.replace(place, bent)}), number >= 2)

    def test_what_sound_files_tell(self):
        self.assertEqual(tables_in(self.files), {"r": (1, tuple((3 * n,) for n in range(20))), "s": (2, ((4, 4),))})
        self.assertEqual(root_in(self.files)[0], 3)
        self.assertEqual(root_in(self.files)[1], {"r": self.tree[:2], "s": (2, tree_in(self.files, "s")[1])})
        self.assertTrue(is_page_tree(self.tree))
        self.assertEqual((self.tree[0], rows_of(self.tree)), (1, tuple((3 * n,) for n in range(20))))
        self.assertTrue(ascending(self.tree[2]))
        junk = {**self.files, "r/999": "leaf"}
        self.assertEqual(tree_in(junk, "r"), self.tree)
        self.assertEqual(tables_in({"r/0": "leaf"}), {})
        turned = {path: self.files[path] for path in reversed(list(self.files))}
        self.assertEqual(tables_in(turned), tables_in(self.files))
        self.assertEqual(list(tables_in(turned)), ["r", "s"])

    def test_idle_paths(self):
        self.assertEqual(idle_paths(self.files), ())
        junk = ["r/999", "r/1000", "x/0", "s/77", "mine/5", "a1/123456789"]
        others = ["r", "r/01", "r/-1", "r/x", "r/1/2", "1r/5", "r-s/5", "root-new", "5/5", "r/5-", "a" * 21 + "/5"]
        files = {**self.files, **{path: "" for path in junk + others}}
        self.assertTrue(is_sound(files))
        self.assertEqual(idle_paths(files), tuple(sorted(junk)))
        self.assertEqual(idle_paths({"r/0": "leaf", "root": "commits 0"}), ("r/0",))


class TestMend(unittest.TestCase):
    def test_mend_deeds(self):
        self.assertEqual(mend_deeds({}), [])
        self.assertEqual(mend_deeds({"mine": "", "root": "commits 0"}), [])
        self.assertEqual(mend_deeds({"root-new": ""}), [("drop", "root-new"), ("sync",)])
        self.assertEqual(mend_deeds({"r/10": "", "r/9": "", "a/3": ""}), [("drop", "a/3"), ("drop", "r/10"), ("drop", "r/9"), ("sync",)])
        files = {"root-new": "x", "b/0": "", "mine": "", "root": "commits 0"}
        deeds = mend_deeds(files)
        self.assertEqual(deeds, [("drop", "root-new"), ("drop", "b/0"), ("sync",)])
        self.assertEqual(done(files, deeds), {"mine": "", "root": "commits 0"})
        self.assertEqual(mend_deeds(done(files, deeds)), [])


class TestCommit(unittest.TestCase):
    def check_commit(self, files, changes):
        """The deeds of one commit, with all that the document says of them; returns the FILES behind it."""
        elder = copy.deepcopy((files, changes))
        deeds = commit_deeds(files, changes)
        self.assertEqual((files, changes), elder)
        self.assertIs(type(deeds), list)
        words = [deed[0] for deed in deeds]
        many = words.index("sync")
        self.assertEqual(words, ["put"] * many + ["sync", "put", "sync", "move", "sync"] + ["drop"] * (len(words) - many - 5))
        places = [(path.split("/")[0], int(path.split("/")[1])) for path in [deed[1] for deed in deeds[:many]]]
        self.assertTrue(ascending(places))
        for name, number in places:
            self.assertNotIn(f"{name}/{number}", files)
        self.assertEqual(deeds[many + 1][1], "root-new")
        root = read_root(deeds[many + 1][2])
        self.assertEqual(root[0], root_in(files)[0] + 1)
        self.assertEqual(deeds[many + 3], ("move", "root-new", "root"))
        moved = done(files, deeds[:many + 5])
        self.assertEqual(deeds[many + 5:], [("drop", path) for path in idle_paths(moved)])
        behind = done(files, deeds)
        self.assertTrue(is_sound(behind))
        self.assertEqual((idle_paths(behind), mend_deeds(behind)), ((), []))
        self.assertEqual(root_in(behind), root)
        needed = {f"{name}/{number}" for name in root[1] for number in tree_in(behind, name)[2]}
        self.assertEqual({f"{name}/{number}" for name, number in places}, {path for path in needed if path not in files})
        return behind

    def test_drawn_edits(self):
        for seed in range(12):
            draw = drawing(seed)
            edits = drawn_edits(draw, 80)
            files, tables = {"mine": "kept"}, {}
            while edits:
                size = draw.choice([0, 1, 1, 5, 20])
                files = self.check_commit(files, draw.choice([list, tuple])(edits[:size]))
                tables = changed(tables, edits[:size])
                edits = edits[size:]
                self.assertEqual(tables_in(files), tables)
                self.assertEqual(files["mine"], "kept")

    def test_no_changes(self):
        self.assertEqual([deed[0] for deed in commit_deeds({}, [])], ["sync", "put", "sync", "move", "sync"])
        files = self.check_commit({}, ())
        self.assertEqual(files, {"root": "commits 1"})
        same = self.check_commit(stored([("table", "r", 1)]), [("take", "r", (1,))])
        self.assertEqual(same, {"mine": "kept", "r/0": "leaf", "root": "commits 2\ntable r 1 0"})

    def test_a_table_anew_in_one_commit(self):
        for first in [1, 6, 30]:
            files = stored([("table", "r", 1)] + [("put", "r", (n,)) for n in range(first)])
            for again in [[], [("put", "r", (1, 2))], [("put", "r", (n, n)) for n in range(9)]]:
                changes = [("drop", "r"), ("table", "r", 2), *again]
                behind = self.check_commit(files, changes)
                self.assertEqual(tables_in(behind), changed(tables_in(files), changes))
                twice = self.check_commit(files, changes + changes)
                self.assertEqual(tables_in(twice), tables_in(behind))
            same = self.check_commit(files, [("drop", "r"), ("table", "r", 1)])
            self.assertEqual(tables_in(same), {"r": (1, ())})

    def test_a_table_that_came_and_went(self):
        behind = self.check_commit({}, [("table", "r", 1), ("put", "r", (1,)), ("drop", "r")])
        self.assertEqual(behind, {"root": "commits 1"})

    def test_notes(self):
        files = self.check_commit({}, [("note", "q", "a\nb\\"), ("note", "p", ""), ("note", "q", "c\n")])
        self.assertEqual(root_in(files), (1, {}, {"p": "", "q": "c\n"}))
        self.assertEqual(list(root_in(files)[2]), ["p", "q"])
        files = self.check_commit(files, [("forget", "q"), ("note", "r", SIGNS), ("table", "q", 1)])
        self.assertEqual(root_in(files)[2], {"p": "", "r": SIGNS})
        self.assertEqual(tables_in(files), {"q": (1, ())})

    def test_root_new_that_stands(self):
        files = {"root-new": "what a cut left"}
        self.assertEqual(self.check_commit(files, [("table", "r", 1)]), {"r/0": "leaf", "root": "commits 1\ntable r 1 0"})

    def test_first_change_that_cannot_be_made(self):
        files = stored([("table", "r", 1), ("put", "r", (1,)), ("table", "s", 2)])
        bad = [(("forget", "q"), NoName), (("put", "s", (1,)), BadRow), (("table", "r", 1), Twice), (("drop", "x"), NoTable),
               (("take", "x", (1,)), NoTable), (("take", "r", (1, 2)), BadRow), (("put", "x", (1,)), NoTable), (("forget", "r"), NoName)]
        for change, kind in bad:
            for other, _ in bad:
                elder = dict(files)
                with self.assertRaises(LookError) as caught:
                    commit_deeds(files, [("note", "n", ""), ("put", "r", (5,)), change, other])
                self.assertIs(type(caught.exception), kind)
                self.assertEqual(caught.exception.name, change[1])
                if kind is BadRow:
                    self.assertIs(caught.exception.row, change[2])
                self.assertEqual(files, elder)
        for changes, kind in [([("note", "q", ""), ("forget", "q"), ("forget", "q")], NoName), ([("drop", "r"), ("put", "r", (1,))], NoTable),
                              ([("table", "t", 2), ("table", "t", 2)], Twice)]:
            with self.assertRaises(kind):
                commit_deeds(files, changes)

    def test_all_that_is_put_are_files(self):
        deeds = commit_deeds({}, [("table", "r", 1), ("put", "r", (-10 ** 9,)), ("note", "n", SIGNS)])
        self.assertTrue(is_files({deed[1]: deed[2] for deed in deeds if deed[0] == "put"}))


if __name__ == "__main__":
    unittest.main()
