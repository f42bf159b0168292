"""[21], [4]: texts of questions, there and back, and the first line that is not so."""

import unittest

from enoughlooks.errors import NoText, Wrong
from enoughlooks.forms import is_question
from enoughlooks.reader import read_question, show_question
from plain_questions import drawn_any_question, nested_questions
from values import QUESTION, any_values, drawing

BASE = "columns a b\nhas r a b\n"


class TestShow(unittest.TestCase):
    def test_show(self):
        self.assertEqual(show_question(QUESTION), "columns a b\nhas r a\nhas s b a\nnot t b\nrange b - 9")
        ranged = (("a", "b"), (("has", "r", ("b", "a")),), (("b", -3, None), ("a", None, None)))
        self.assertEqual(show_question(ranged), "columns a b\nhas r b a\nrange b -3 -\nrange a - -")
        self.assertEqual(show_question((("a",), (("has", "a", ("a",)),), ())), "columns a\nhas a a")

    def test_what_is_shown_is_read_back(self):
        draw = drawing(21)
        large = (("a",), (("has", "r", ("a",)),), (("a", -999999999, 999999999),))
        words = (("has", "not", "columns"), (("has", "range", ("has", "not")), ("has", "table", ("columns",))), (("not", 0, 0),))
        many = (tuple(f"c{number}" for number in range(12)), (("has", "r", tuple(f"c{number}" for number in range(12))),), ())
        for question in [QUESTION, large, words, many, *nested_questions(), *[drawn_any_question(draw) for _ in range(100)]]:
            self.assertIs(is_question(question), True)
            self.assertEqual(read_question(show_question(question)), question)


class TestRead(unittest.TestCase):
    def line_of(self, text):
        with self.assertRaises(NoText) as caught:
            read_question(text)
        return caught.exception.line

    def test_blanks_and_empty_lines(self):
        text = "\n  \n  columns   a  b \n\n has  r a   b\n   \n\nrange   b  -  -4  \n\n"
        self.assertEqual(read_question(text), (("a", "b"), (("has", "r", ("a", "b")),), (("b", None, -4),)))

    def test_signs_behind_a_hash(self):
        text = "# has q\n#\ncolumns a b# c d\nhas r a # b\n  # columns a\nhas s a b#\nrange a 1#2 3\n"
        self.assertEqual(self.line_of(text), 6)
        text = text.replace("1#2 3", "1 23 # 4 ## x \t")
        self.assertEqual(read_question(text), (("a", "b"), (("has", "r", ("a",)), ("has", "s", ("a", "b"))), (("a", 1, 23),)))
        self.assertEqual(self.line_of("has r a\nha#s s a"), 1)

    def test_other_orders(self):
        text = "columns b a\nrange a 1 2\nnot n a\nrange b - 3\nhas s a b\nhas r b"
        expected = (("b", "a"), (("not", "n", ("a",)), ("has", "s", ("a", "b")), ("has", "r", ("b",))),
                    (("a", 1, 2), ("b", None, 3)))
        self.assertEqual(read_question(text), expected)

    def test_without_columns(self):
        self.assertEqual(read_question("has r b a\nhas s c b")[0], ("b", "a", "c"))
        self.assertEqual(read_question("range c 1 2\nnot n a\nhas s c b\nhas r a b")[0], ("a", "c", "b"))
        self.assertEqual(read_question("has r a"), (("a",), (("has", "r", ("a",)),), ()))

    def test_bounds_of_ranges(self):
        for low, high, bounds in [("-", "-", (None, None)), ("0", "-", (0, None)), ("-", "-0", None), ("-5", "-5", (-5, -5)),
                                  ("999999999", "999999999", (999999999, 999999999)), ("-999999999", "-", (-999999999, None)),
                                  ("1000000000", "-", None), ("-", "1000000000", None), ("-1000000000", "-", None),
                                  ("01", "-", None), ("+1", "-", None), ("1.0", "-", None), ("--1", "-", None), ("--", "-", None),
                                  ("2", "1", None), ("0", "-1", None), ("a", "-", None), ("None", "-", None), ("1_0", "-", None),
                                  ("9" * 3000, "-", None), ("9" * 3000, "9" * 3000, None)]:
            text = f"{BASE}range a {low} {high}\nx"
            if bounds is None:
                self.assertEqual(self.line_of(text), 2, (low, high))
            else:
                self.assertEqual(self.line_of(text), 3)
                self.assertEqual(read_question(text[:-2])[2], (("a", *bounds),))

    def test_no_line_of_a_question(self):
        for line in ["x", "has", "has s", "not", "not n", "range", "range a", "range a 1", "range a 1 2 3", "Has s a", "has S a",
                     "has s A",
                     "has s a a", "has 1 a", "has s 1", "has s -", "a", "rang a 1 2", "ranges a 1 2", "columns", "columns a a",
                     "columns -",
                     "has s\ta", "has\u00a0s a", "\u00e4", "has s a\r", "range A 1 2", "table r 1", "- -", "range a 1 -1",
                     "has " + "s" * 21 + " a", "has s " + "a" * 21, "range " + "a" * 21 + " 1 2", "columns " + "a" * 21]:
            self.assertEqual(self.line_of(BASE + line + "\nrange q 1 2"), 2, line)
            self.assertEqual(self.line_of("#\n" + line + "\nhas r a"), 1, line)

    def test_columns_line(self):
        self.assertEqual(self.line_of("columns\nhas r a"), 0)
        self.assertEqual(self.line_of("\ncolumns # a\nhas r a"), 1)
        self.assertEqual(self.line_of("columns a b a\nhas r a b"), 0)
        self.assertEqual(self.line_of("columns a B\nhas r a"), 0)
        self.assertEqual(self.line_of("has r a\ncolumns a"), 1)
        self.assertEqual(self.line_of("range a 1 2\n\ncolumns a\nhas r a"), 2)
        self.assertEqual(self.line_of("columns a\ncolumns a\nhas r a"), 1)

    def test_columns_that_the_line_lacks(self):
        self.assertEqual(self.line_of("columns a b\nhas r a b\nhas s a c\nx"), 2)
        self.assertEqual(self.line_of("columns a b\nnot n c\nhas r a b"), 1)
        self.assertEqual(self.line_of("columns a b\nrange c 1 2\nhas r a b"), 1)

    def test_a_second_one(self):
        self.assertEqual(self.line_of("has r a\nhas s a\nhas r a b\nx"), 2)
        self.assertEqual(self.line_of("has r a\nnot r a"), 1)
        self.assertEqual(self.line_of("columns a\nhas r a\nrange a 1 2\nrange a 1 2"), 3)
        self.assertEqual(self.line_of("range a 1 2\nrange b 1 2\nrange a - -\nhas r a b"), 2)
        # A table and a column of one name are two things.
        self.assertEqual(read_question("has a a\nrange a 1 2")[2], (("a", 1, 2),))

    def test_no_line_amiss(self):
        for text, lines in [("", 1), ("\n", 2), ("  # has r a\n\n", 3), ("range a 1 2", 1), ("columns a b\nhas r a", 2),
                            ("columns a b\nhas r a\n\n\n", 5), ("has r a\nnot n a b", 2), ("has r a\nrange b 1 2\n", 3),
                            ("not n a", 1), ("columns a", 1), ("columns a b\nhas r a\nnot s b", 3)]:
            self.assertEqual(self.line_of(text), lines, text)

    def test_what_follows_may_still_help(self):
        self.assertEqual(self.line_of("columns a b\nhas r a\nx\nhas s b"), 2)
        self.assertEqual(read_question("columns a b\nnot n b\nhas r a\nhas s b")[0], ("a", "b"))
        self.assertEqual(read_question("not n b\nrange a 1 2\nhas r a b")[0], ("b", "a"))

    def test_wrong(self):
        for thing in any_values():
            if isinstance(thing, str):
                continue
            with self.assertRaises(Wrong) as caught:
                read_question(thing)
            self.assertEqual(caught.exception.place, 0)

    def test_long_texts(self):
        text = "has r a\n" * 500
        self.assertEqual(self.line_of(text[:4000]), 1)
        self.assertEqual(self.line_of("~" * 4000), 0)
        self.assertEqual(self.line_of("\n" * 4000), 4001)


if __name__ == "__main__":
    unittest.main()
