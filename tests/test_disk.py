"""[17], [3], [4]: deeds, fates, and a disk whose power fails."""

import copy
import itertools
import unittest

from enoughlooks.disk import Disk, cut, done, is_files
from enoughlooks.errors import PowerCut, Wrong
from enoughlooks.store import Store
from values import any_values, ascending, drawing

FATES = ["done", "lost", 0, 1, 2, 99]


def plain_done(files, deeds):
    """What [17] says of deeds, one after the other."""
    files = dict(files)
    for deed in deeds:
        if deed[0] == "put":
            files[deed[1]] = deed[2]
        elif deed[0] == "drop":
            files = {path: text for path, text in files.items() if path != deed[1]}
        elif deed[0] == "move" and deed[1] in files and deed[1] != deed[2]:
            files[deed[2]] = files[deed[1]]
            del files[deed[1]]
    return files


def plain_cut(files, deeds, many, fates):
    """What is left if power fails, told from the last sync on."""
    begun = list(deeds)[:many]
    syncs = [index for index, deed in enumerate(begun) if deed == ("sync",)]
    kept = syncs[-1] + 1 if syncs else 0
    files = plain_done(files, begun[:kept])
    for deed, fate in itertools.zip_longest(begun[kept:], fates[:len(begun) - kept], fillvalue="done"):
        if fate == "lost":
            continue
        if fate != "done" and deed[0] == "put":
            deed = ("put", deed[1], "".join(deed[2][index] for index in range(min(fate, len(deed[2])))))
        elif fate == 0:
            continue
        files = plain_done(files, [deed])
    return files


def drawn_deeds(draw, count):
    paths = ["a", "b", "r/0", "r/1"]
    deeds = []
    for _ in range(count):
        word = draw.choice(["put", "put", "put", "drop", "move", "move", "sync"])
        one, other = draw.choice(paths), draw.choice(paths)
        text = draw.choice(["", "x", "two\nlines", "abcdefgh"])
        deeds.append({"put": ("put", one, text), "drop": ("drop", one), "move": ("move", one, other), "sync": ("sync",)}[word])
    return deeds


def drawn_fates(draw, count):
    return tuple(draw.choice(FATES) for _ in range(count))


class TestFiles(unittest.TestCase):
    def test_is_files(self):
        signs = "".join(chr(number) for number in range(32, 127)) + "\n"
        for thing in [{}, {"a": ""}, {"a/b-1": signs}, {"-": "\n"}, {"a" * 30 + "/" + "9" * 30: "~ "}, {"/".join("a" * 99): ""}]:
            self.assertIs(is_files(thing), True, thing)
        for thing in [{"": ""}, {"a//b": ""}, {"/a": ""}, {"a/": ""}, {"/": ""}, {"A": ""}, {"a_b": ""}, {"a.b": ""}, {"a b": ""},
                      {"a\n": ""}, {"a" * 31: ""}, {"a/" + "b" * 31: ""}, {"a": None}, {"a": 1}, {"a": ["x"]}, {"a": "\t"},
                      {"a": "\x7f"}, {"a": "\r\n"}, {"a": "\u00e4"}, {"a": "\x1f"}, {"a": "\x00"}, {1: ""}, {None: ""}, {("a",): ""},
                      [("a", "")], "a", {"a": "", "b": True}, {"\u00e4": ""}, {"a": "\u2028"}]:
            self.assertIs(is_files(thing), False, thing)

    def test_any_value(self):
        for thing in any_values():
            self.assertIs(is_files(thing), thing == {}, thing)
            if not isinstance(thing, str):
                self.assertIs(is_files({"a": thing}), False)


class TestDeeds(unittest.TestCase):
    def test_each_deed(self):
        files = {"b": "two", "a": "one"}
        for deed, left in [(("put", "c", "x"), {"a": "one", "b": "two", "c": "x"}), (("put", "a", ""), {"a": "", "b": "two"}),
                           (("drop", "a"), {"b": "two"}), (("drop", "c"), {"a": "one", "b": "two"}),
                           (("move", "a", "c"), {"b": "two", "c": "one"}), (("move", "a", "b"), {"b": "one"}),
                           (("move", "a", "a"), {"a": "one", "b": "two"}), (("move", "c", "a"), {"a": "one", "b": "two"}),
                           (("sync",), {"a": "one", "b": "two"})]:
            self.assertEqual(done(files, [deed]), left)
            self.assertEqual(done(files, (deed,)), left)
            self.assertTrue(ascending(done(files, [deed])))
        self.assertEqual(list(files), ["b", "a"])

    def test_each_fate(self):
        files = {"a": "one"}
        for deed in [("put", "a", "other"), ("put", "b", "other"), ("drop", "a"), ("move", "a", "b"), ("move", "b", "a")]:
            whole = done(files, [deed])
            self.assertEqual(cut(files, [deed], 1, ()), whole)
            self.assertEqual(cut(files, [deed], 1, ("done",)), whole)
            self.assertEqual(cut(files, [deed], 1, ("lost",)), files)
            self.assertEqual(cut(files, [deed], 0, ("done",)), files)
            for fate in [0, 1, 3, 5, 6]:
                if deed[0] == "put":
                    self.assertEqual(cut(files, [deed], 1, (fate,)), {**files, deed[1]: "other"[:fate]})
                else:
                    self.assertEqual(cut(files, [deed], 1, (fate,)), files if fate == 0 else whole)

    def test_a_sync_keeps_all_ahead_of_it(self):
        deeds = [("put", "a", "x"), ("sync",), ("put", "b", "y"), ("sync",), ("put", "c", "z"), ("drop", "a")]
        self.assertEqual(cut({}, deeds, 1, ("lost",)), {})
        self.assertEqual(cut({}, deeds, 2, ("lost", "lost")), {"a": "x"})
        self.assertEqual(cut({}, deeds, 3, ("lost", "done")), {"a": "x"})
        self.assertEqual(cut({}, deeds, 4, ("lost", "lost")), {"a": "x", "b": "y"})
        self.assertEqual(cut({}, deeds, 6, ("lost",)), {"b": "y"})
        self.assertEqual(cut({}, deeds, 6, ("done", "lost")), {"a": "x", "b": "y", "c": "z"})

    def test_a_later_deed_without_an_earlier_one(self):
        deeds = [("put", "a", "x"), ("move", "a", "b"), ("put", "a", "y")]
        self.assertEqual(cut({}, deeds, 3, ("lost",)), {"a": "y"})
        self.assertEqual(cut({}, deeds, 3, ("done", "lost", 0)), {"a": ""})
        self.assertEqual(cut({"a": "0"}, deeds, 3, ("lost", "done", "lost")), {"b": "0"})

    def test_drawn(self):
        for seed in range(150):
            draw = drawing(seed)
            files, deeds = {"b": "begin", "a": "old"}, drawn_deeds(draw, draw.randrange(9))
            elder = copy.deepcopy((files, deeds))
            self.assertEqual(done(files, deeds), plain_done(files, deeds))
            for many in range(len(deeds) + 1):
                fates = drawn_fates(draw, draw.randrange(9))
                left = cut(files, deeds, many, fates)
                self.assertEqual(left, plain_cut(files, deeds, many, fates))
                self.assertEqual(cut(files, tuple(deeds), many, fates), left)
                self.assertTrue(ascending(left))
                self.assertTrue(is_files(left))
            self.assertEqual((files, deeds), elder)


class TestDisk(unittest.TestCase):
    def cut_at(self, disk, deeds):
        with self.assertRaises(PowerCut):
            disk.do(deeds)

    def test_wrong(self):
        for thing in [*any_values(), {"a": "\t"}, {"A": ""}]:
            if thing != {}:
                with self.assertRaises(Wrong) as caught:
                    Disk(thing)
                self.assertEqual(caught.exception.place, 0)

    def test_copies_and_returns_what_is_new(self):
        files = {"b": "1", "a": "2"}
        disk = Disk(files)
        files["c"] = "3"
        disk.files()["d"] = "4"
        self.assertEqual(disk.files(), {"a": "2", "b": "1"})
        self.assertEqual(list(disk.files()), ["a", "b"])

    def test_do(self):
        disk = Disk({})
        self.assertIs(disk.has_power(), True)
        self.assertIsNone(disk.do([("put", "b", "1"), ("put", "a", "2")]))
        self.assertIsNone(disk.do((("move", "b", "c"),)))
        self.assertIsNone(disk.do([]))
        self.assertEqual(disk.files(), {"a": "2", "c": "1"})
        self.assertEqual(list(disk.files()), ["a", "c"])

    def test_no_power(self):
        disk = Disk({"a": "1"})
        self.assertIsNone(disk.fuse(0, ()))
        self.assertIs(disk.has_power(), True)
        self.assertIsNone(disk.do([]))
        self.cut_at(disk, [("drop", "a")])
        self.assertIs(disk.has_power(), False)
        self.cut_at(disk, [])
        self.cut_at(disk, [("drop", "a")])
        self.assertEqual(disk.files(), {"a": "1"})
        self.assertIsNone(disk.power())
        self.assertIs(disk.has_power(), True)
        disk.do([("drop", "a")])
        self.assertEqual(disk.files(), {})

    def test_fuse_counts_over_calls_and_syncs(self):
        disk = Disk({})
        disk.do([("put", "a", "aa")])
        disk.fuse(3, ("lost", 1))
        disk.do([("put", "b", "bb")])
        disk.do([])
        disk.do([("put", "c", "cc"), ("put", "d", "dd")])
        self.assertEqual(disk.files(), {"a": "aa", "b": "bb", "c": "cc", "d": "dd"})
        self.cut_at(disk, [("sync",)])
        self.assertEqual(disk.files(), {"b": "b", "c": "cc", "d": "dd"})
        disk.power()
        disk.fuse(2, ("lost", "lost"))
        self.cut_at(disk, [("put", "a", "x"), ("sync",), ("put", "b", "x")])
        self.assertEqual(disk.files(), {"a": "x", "b": "b", "c": "cc", "d": "dd"})

    def test_a_new_fuse_takes_the_place_of_an_elder_one(self):
        disk = Disk({})
        disk.fuse(1, ("lost", "lost"))
        disk.do([("put", "a", "1")])
        disk.fuse(1, ("done", "lost"))
        self.cut_at(disk, [("put", "b", "1"), ("put", "c", "1")])
        self.assertEqual(disk.files(), {"a": "1"})

    def test_power_takes_the_fuse_away_and_keeps(self):
        disk = Disk({})
        disk.fuse(0, ("lost",))
        disk.power()
        disk.do([("put", "a", "1"), ("put", "b", "1")])
        disk.power()
        disk.fuse(1, ("lost", "lost", "lost"))
        self.cut_at(disk, [("put", "c", "1"), ("put", "d", "1")])
        self.assertEqual(disk.files(), {"a": "1", "b": "1"})
        disk.fuse(0, ("lost",))
        self.cut_at(disk, [("put", "c", "1")])
        disk.power()
        disk.do([("put", "c", "1")])
        self.assertEqual(disk.files(), {"a": "1", "b": "1", "c": "1"})

    def test_drawn_as_cut_tells(self):
        for seed in range(120):
            draw = drawing(seed)
            deeds = drawn_deeds(draw, 7)
            many, fates = draw.randrange(7), drawn_fates(draw, draw.randrange(7))
            ahead = draw.randrange(many + 1)
            first = draw.randrange(ahead, many + 1)
            disk = Disk({"a": "old"})
            disk.do(deeds[:ahead])
            disk.fuse(many - ahead, fates)
            disk.do(deeds[ahead:first])
            twin = disk.twin()
            for one in (disk, twin):
                self.cut_at(one, deeds[first:])
                self.assertEqual(one.files(), cut({"a": "old"}, deeds, many, fates))
                self.assertIs(one.has_power(), False)

    def test_twin_is_independent(self):
        disk = Disk({"a": "1"})
        disk.do([("put", "b", "1")])
        disk.fuse(2, ("lost",))
        twin = disk.twin()
        self.assertIs(type(twin), Disk)
        self.assertTrue(twin == disk)
        twin.do([("put", "c", "1")])
        self.assertEqual(disk.files(), {"a": "1", "b": "1"})
        disk.do([("drop", "a")])
        self.assertEqual(twin.files(), {"a": "1", "b": "1", "c": "1"})
        self.cut_at(twin, [("put", "d", "1"), ("put", "e", "1")])
        self.assertEqual(twin.files(), {"a": "1", "c": "1", "d": "1"})
        disk.do([("sync",)])
        self.assertIs(disk.has_power(), True)

    def test_equal(self):
        one, other = Disk({"a": "1"}), Disk({})
        self.assertIs(one == other, False)
        other.do([("put", "a", "1")])
        other.fuse(0, ())
        self.assertIs(one == other, True)
        self.assertIs(one != other, False)
        self.cut_at(other, [("sync",)])
        self.assertEqual(other.files(), one.files())
        self.assertIs(one == other, False)
        self.assertIs(other == other.twin(), True)
        for thing in [*any_values(), {"a": "1"}, Store({"a": "1"})]:
            self.assertIs(one == thing, False)


if __name__ == "__main__":
    unittest.main()
