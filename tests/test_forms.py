"""[12], [2], [3]: what is of which form, and what is not."""

import copy
import unittest

from enoughlooks import forms
from enoughlooks.forms import fits, is_atom, is_edit, is_integer, is_name, is_question, is_range, is_row
from enoughlooks.forms import is_table, is_tables
from values import PAIRS, QUESTION, any_values

NAMES = ["is_integer", "is_name", "is_row", "is_table", "is_tables", "is_atom", "is_range", "is_question", "is_edit"]
FITTING = {"is_integer": [-1, 10 ** 39], "is_tables": [{}], "is_row": [tuple(range(4000))]}


class TestForms(unittest.TestCase):
    def all_true(self, tell, things):
        for thing in things:
            self.assertIs(tell(thing), True, repr(thing))

    def all_false(self, tell, things):
        for thing in things:
            self.assertIs(tell(thing), False, repr(thing))

    def test_any_value_is_told(self):
        for name in NAMES:
            for thing in any_values():
                known = any(type(thing) is type(one) and thing == one for one in FITTING.get(name, []))
                self.assertIs(getattr(forms, name)(thing), known, (name, thing))

    def test_each_form_is_not_another(self):
        some = {"is_integer": 3, "is_name": "r", "is_row": (1, 2), "is_table": (1, ((1,),)), "is_tables": {"r": (1, ())},
                "is_atom": ("has", "r", ("a",)), "is_range": ("a", 1, 2), "is_question": QUESTION,
                "is_edit": ("put", "r", (1,))}
        for name in NAMES:
            for other in NAMES:
                self.assertIs(getattr(forms, name)(some[other]), name == other, (name, other))

    def test_integers(self):
        self.all_true(is_integer, [0, 1, -1, 10 ** 40])
        self.all_false(is_integer, [True, False, "1", None, (1,)])

    def test_names(self):
        self.all_true(is_name, ["a", "z9", "a" * 20, "has"])
        self.all_false(is_name, ["", "9a", "a" * 21, "a_b", "a-b", "aB", "a b", "a\n", " a", "\u00e4", "a\u00b2", ["a"], ("a",)])

    def test_rows(self):
        self.all_true(is_row, [(0,), (3, -4, 3)])
        self.all_false(is_row, [(), (True,), (1, False), (1, None), [1], (1, "2"), ((1,),)])

    def test_tables(self):
        self.all_true(is_table, [PAIRS, (1, ()), (1, ((-2,), (0,))), (7, ())])
        self.all_false(is_table, [
            (0, ()), (-1, ()), (True, ()), (True, ((1,),)), (2, ((1,),)), (1, ((1,), (1,))), (1, ((2,), (1,))),
            (1, [(1,)]), (1, ([1],)), (1, ((True,),)), (2, ((1, 2), (1, 2, 3))), [1, ()], (1,), (1, (), ()), (0, ((),)),
            (None, ()),
        ])
        self.all_true(is_tables, [{}, {"s": PAIRS, "r": (1, ())}])
        self.all_false(is_tables, [{"R": (1, ())}, {"r": (0, ())}, {1: (1, ())}, [("r", (1, ()))], {"": (1, ())}])

    def test_atoms(self):
        self.all_true(is_atom, [("has", "r", ("a",)), ("not", "a", ("a", "b"))])
        self.all_false(is_atom, [
            ("Has", "r", ("a",)), ("has", "R", ("a",)), ("has", "r", ()), ("has", "r", ("a", "a")), ("has", "r", ["a"]),
            ("has", "r", ("a", 1)), ("has", "r", "a"), ("has", "r"), ["has", "r", ("a",)], (None, "r", ("a",)),
            (["has"], "r", ("a",)), ("has", "r", ("a",), ()),
        ])

    def test_ranges(self):
        self.all_true(is_range, [("a", None, None), ("a", 1, None), ("a", None, -1), ("a", 2, 2), ("a", -5, 10 ** 12)])
        self.all_false(is_range, [
            ("a", 2, 1), ("A", 1, 2), ("a", 1), ["a", 1, 2], ("a", True, 2), ("a", 0, False), ("a", "1", 2), (1, 1, 2),
            ("a", 1, 2, 3),
        ])

    def test_questions(self):
        had = (("has", "r", ("a", "b")),)
        self.all_true(is_question, [
            QUESTION, (("a", "b"), had, ()), (("b", "a"), had, (("a", 1, 1), ("b", None, None))),
            (("a", "b"), had + (("not", "s", ("b",)), ("has", "t", ("b", "a"))), ()),
        ])
        self.all_false(is_question, [
            ((), (), ()), ((), had, ()), (("a",), (), ()), (("a", "b", "a"), had, ()), (("a",), had, ()),
            (("a", "b", "c"), had, ()), (("a", "b"), had + had, ()), (("a", "b"), had + (("not", "r", ("a",)),), ()),
            (("a", "b"), (("has", "r", ("a",)), ("not", "s", ("b",))), ()), (("a", "b"), had, (("c", 1, 2),)),
            (("a", "b"), had, (("a", 1, 2), ("a", 1, 2))), (("a", "b"), had, (("a", 2, 1),)), (["a", "b"], had, ()),
            (("a", "b"), list(had), ()), (("a", "b"), had, []), (("a", "b"), had), (("a", "b"), had, (), ()),
            (("a", "B"), had, ()), (("a", "b"), (("has", "r", ("a", "b"), 1),), ()), [("a", "b"), had, ()],
            (([], "b"), had, ()), (("a", "b"), had, (([], 1, 2),)),
        ])

    def test_bounds_are_not_asked(self):
        columns = tuple(f"c{number}" for number in range(12))
        atoms = tuple(("has", f"r{number}", columns) for number in range(12))
        self.assertIs(is_question((columns, atoms, ())), True)
        self.assertIs(is_table((7, tuple((number, 0, 0, 0, 0, 0, 10 ** 30) for number in range(300)))), True)

    def test_edits(self):
        self.all_true(is_edit, [("table", "r", 1), ("table", "r", 9), ("drop", "r"), ("put", "r", (1,)), ("take", "r", (1, 2))])
        self.all_false(is_edit, [
            ("table", "r", 0), ("table", "r", True), ("table", "r", (1,)), ("table", "R", 1), ("table", "r"), ("drop",),
            ("drop", "r", 1), ("drop", 1), ("put", "r", ()), ("put", "r", 1), ("put", "r", [1]), ("take", "r", (True,)),
            ("take", "", (1,)), ["drop", "r"], ("note", "q", ""), ("forget", "q"), (None, "r", (1,)), ("put", "r", (1,), 1),
        ])

    def test_fits(self):
        fit = {"s": PAIRS, "r": (1, ()), "t": (1, ()), "u": (5, ())}
        self.assertIs(fits(QUESTION, fit), True)
        self.assertIs(fits(QUESTION, {"t": (1, ()), "r": (1, ()), "s": (2, ())}), True)
        for name in "rst":
            self.assertIs(fits(QUESTION, {other: fit[other] for other in fit if other != name}), False)
            self.assertIs(fits(QUESTION, {**fit, name: (3, ())}), False)
        self.assertIs(fits(QUESTION, {}), False)

    def test_arguments_stay(self):
        tables = {"s": PAIRS, "r": (1, ()), "t": (1, ())}
        elder = copy.deepcopy(tables)
        fits(QUESTION, tables)
        is_tables(tables)
        self.assertEqual(list(tables.items()), list(elder.items()))


if __name__ == "__main__":
    unittest.main()
