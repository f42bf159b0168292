"""[14], [4]: texts of tables, there and back, and the first line that is not so."""

import unittest

from enoughlooks.errors import NoText, Wrong
from enoughlooks.tables import changed
from enoughlooks.texts import read_tables, show_tables
from values import PAIRS, ascending, any_values, drawing, drawn_edits


class TestTexts(unittest.TestCase):
    def line_of(self, text):
        with self.assertRaises(NoText) as caught:
            read_tables(text)
        return caught.exception.line

    def test_show(self):
        self.assertEqual(show_tables({}), "")
        self.assertEqual(show_tables({"r": (3, ())}), "table r 3")
        self.assertEqual(show_tables({"s": PAIRS, "r": (1, ((-7,), (0,)))}), "table r 1\n-7\n0\ntable s 2\n1 2\n1 5\n3 1")

    def test_there_and_back(self):
        for seed in range(30):
            tables = changed({}, drawn_edits(drawing(seed), 40))
            text = show_tables({name: tables[name] for name in reversed(list(tables))})
            self.assertEqual(text, show_tables(tables))
            self.assertEqual(read_tables(text), tables)
            self.assertTrue(ascending(read_tables(text)))

    def test_large_integers(self):
        tables = {"r": (1, ((-10 ** 39,), (10 ** 39,)))}
        self.assertEqual(read_tables(show_tables(tables)), tables)
        self.assertEqual(read_tables("table r 1\n" + "9" * 3990), {"r": (1, ((10 ** 3990 - 1,),))})
        self.assertEqual(self.line_of("table r 1\n" + "9" * 5000), 1)

    def test_blanks_and_order(self):
        self.assertEqual(read_tables(""), {})
        self.assertEqual(read_tables("\n  \n"), {})
        text = "\n  table   s  2 \n3 1\n\n 1   5\ntable r 1\n   \ntable a 7\n"
        tables = read_tables(text)
        self.assertEqual(tables, {"a": (7, ()), "r": (1, ()), "s": (2, ((1, 5), (3, 1)))})
        self.assertEqual(list(tables), ["a", "r", "s"])

    def test_rows_ahead_of_any_table(self):
        self.assertEqual(self.line_of("1"), 0)
        self.assertEqual(self.line_of("\n\n1 2\ntable r 2"), 2)

    def test_told_again(self):
        self.assertEqual(self.line_of("table r 2\n1 2\ntable s 1\ntable r 2"), 3)
        self.assertEqual(self.line_of("table r 2\n1 2\n1 3\n\n 1  2"), 4)
        self.assertEqual(self.line_of("table r 2\ntable r 3"), 1)
        self.assertEqual(read_tables("table r 1\n1\ntable s 1\n1"), {"r": (1, ((1,),)), "s": (1, ((1,),))})

    def test_another_number_of_integers(self):
        self.assertEqual(self.line_of("table r 2\n1"), 1)
        self.assertEqual(self.line_of("table r 2\n1 2\n1 2 3"), 2)
        self.assertEqual(self.line_of("table r 2\ntable s 1\n1 2"), 2)

    def test_no_line_at_all(self):
        for line in ["x", "table", "table q", "table q 0", "table q -1", "table q 01", "table q +1", "table q 1 2", "table R 1",
                     "table 1 1", "table q x", "Table q 1", "tables q 1", "tableq 1", "table " + "q" * 21 + " 1",
                     "1.", "1,2", "01", "-0", "+1", "--1", "-", "1_0", "1 x", "x 1", "1e3", "0x1", "00", "- 1"]:
            self.assertEqual(self.line_of("table r 1\n5\n" + line + "\n5"), 2, line)

    def test_only_blanks_part_words(self):
        for line in ["1\t2", "1\u00a02", "\u0661 2", "\u00b2 2", "1\r", "1\x0b2"]:
            self.assertEqual(self.line_of("table r 2\n" + line), 1, repr(line))

    def test_first_line_counts(self):
        self.assertEqual(self.line_of("table r 1\n5\n5\ntable r 1\nx"), 2)
        self.assertEqual(self.line_of("table r 1\n1\nx\n1"), 2)

    def test_wrong(self):
        for thing in any_values():
            if isinstance(thing, str):
                continue
            with self.assertRaises(Wrong) as caught:
                read_tables(thing)
            self.assertEqual(caught.exception.place, 0)

    def test_what_is_returned_is_new(self):
        one = read_tables("table r 1")
        one["r"] = None
        self.assertEqual(read_tables("table r 1"), {"r": (1, ())})


if __name__ == "__main__":
    unittest.main()
