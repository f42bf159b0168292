"""[13], [3], [4]: rows of tables, what stands next to a value, and edits with their errors."""

import unittest

from enoughlooks.errors import BadRow, LookError, NoTable, Twice
from enoughlooks.forms import is_table, is_tables
from enoughlooks.tables import changed, has_row, is_there, led_rows, nearest_by_all, with_row, without_row
from values import PAIRS, ascending, drawing, drawn_edits, drawn_rows


def plain_nearest(rows, prefix, x):
    """What [13] says, value by value."""
    values = sorted({row[len(prefix)] for row in rows if list(row[:len(prefix)]) == list(prefix)})
    if x is None:
        return (False, None, values[0] if values else None)
    below = [value for value in values if value < x]
    above = [value for value in values if value > x]
    return (x in values, below[-1] if below else None, above[0] if above else None)


class TestRows(unittest.TestCase):
    def test_has_row(self):
        self.assertIs(has_row(PAIRS, (1, 5)), True)
        for row in [(1, 3), (1,), (1, 5, 0), (5, 1)]:
            self.assertIs(has_row(PAIRS, row), False)
        self.assertIs(has_row((1, ()), (0,)), False)

    def test_with_and_without(self):
        self.assertEqual(with_row(PAIRS, (2, 9)), (2, ((1, 2), (1, 5), (2, 9), (3, 1))))
        self.assertEqual(with_row(PAIRS, (-1, 0))[1][0], (-1, 0))
        self.assertEqual(with_row(PAIRS, (1, 5)), PAIRS)
        self.assertEqual(without_row(PAIRS, (1, 5)), (2, ((1, 2), (3, 1))))
        self.assertEqual(without_row(PAIRS, (1, 6)), PAIRS)
        self.assertEqual(without_row((1, ((4,),)), (4,)), (1, ()))
        self.assertEqual(with_row((1, ()), (4,)), (1, ((4,),)))

    def test_drawn_tables_stay_tables(self):
        draw = drawing(13)
        table, rows = (2, ()), set()
        for _ in range(300):
            row = (draw.randrange(-4, 5), draw.randrange(-4, 5))
            if draw.random() < 0.6:
                table = with_row(table, row)
                rows.add(row)
            else:
                table = without_row(table, row)
                rows.discard(row)
            self.assertTrue(is_table(table))
            self.assertEqual(table, (2, tuple(sorted(rows))))

    def test_led_rows(self):
        self.assertEqual(led_rows(PAIRS, (1, 0)), ((1, 3), (2, 1), (5, 1)))
        self.assertEqual(led_rows(PAIRS, (0, 1)), PAIRS[1])
        self.assertEqual(led_rows((3, ((1, 2, 3), (1, 9, 0))), (2, 0, 1)), ((0, 1, 9), (3, 1, 2)))
        self.assertEqual(led_rows((3, ()), (2, 0, 1)), ())

    def test_is_there(self):
        self.assertIs(is_there((), ()), True)
        self.assertIs(is_there(PAIRS[1], ()), True)
        self.assertIs(is_there(PAIRS[1], (3,)), True)
        self.assertIs(is_there(PAIRS[1], (2,)), False)
        self.assertIs(is_there((), (2,)), False)
        three = ((1, 2, 3), (4, 5, 6))
        self.assertIs(is_there(three, (4, 5)), True)
        self.assertIs(is_there(three, (4, 2)), False)

    def test_nearest_edges(self):
        rows = PAIRS[1]
        self.assertEqual(nearest_by_all(rows, (), 2), (False, 1, 3))
        self.assertEqual(nearest_by_all(rows, (), 1), (True, None, 3))
        self.assertEqual(nearest_by_all(rows, (), 9), (False, 3, None))
        self.assertEqual(nearest_by_all(rows, (3,), None), (False, None, 1))
        self.assertEqual(nearest_by_all(rows, (2,), None), (False, None, None))
        self.assertEqual(nearest_by_all((), (), 0), (False, None, None))
        self.assertEqual(nearest_by_all((), (), None), (False, None, None))
        self.assertEqual(nearest_by_all(((0,), (1,)), (), 0), (True, None, 1))
        self.assertIs(nearest_by_all(((0,), (1,)), (), 1)[0], True)

    def test_nearest_drawn(self):
        draw = drawing(14)
        for _ in range(40):
            many = draw.choice([1, 2, 3])
            rows = drawn_rows(draw, many, draw.randrange(12), 5)
            for size in range(many):
                for _ in range(10):
                    prefix = tuple(draw.randrange(-2, 5) for _ in range(size))
                    for x in [None, *range(-4, 7)]:
                        self.assertEqual(nearest_by_all(rows, prefix, x), plain_nearest(rows, prefix, x))


class TestChanged(unittest.TestCase):
    def raised(self, tables, edits):
        elder = list(tables.items())
        with self.assertRaises(LookError) as caught:
            changed(tables, edits)
        self.assertEqual(list(tables.items()), elder)
        return caught.exception

    def test_each_edit(self):
        self.assertEqual(changed({}, [("table", "r", 3)]), {"r": (3, ())})
        self.assertEqual(changed({"r": (1, ())}, [("drop", "r")]), {})
        self.assertEqual(changed({"r": (1, ())}, (("put", "r", (4,)),)), {"r": (1, ((4,),))})
        self.assertEqual(changed({"r": (1, ((4,),))}, [("put", "r", (4,))]), {"r": (1, ((4,),))})
        self.assertEqual(changed({"r": (1, ((4,),))}, [("take", "r", (4,))]), {"r": (1, ())})
        self.assertEqual(changed({"r": (1, ())}, [("take", "r", (4,))]), {"r": (1, ())})
        again = [("drop", "r"), ("table", "r", 2), ("put", "r", (1, 2))]
        self.assertEqual(changed({"r": (1, ((4,),))}, again), {"r": (2, ((1, 2),))})

    def test_new_and_ascending(self):
        tables = {"s": PAIRS, "r": (1, ())}
        same = changed(tables, [])
        self.assertEqual(same, tables)
        self.assertIsNot(same, tables)
        self.assertEqual(list(same), ["r", "s"])
        self.assertEqual(list(tables), ["s", "r"])
        self.assertEqual(list(changed(tables, [("table", "a", 1), ("table", "z", 1), ("table", "k", 1)])), list("akrsz"))

    def test_arguments_stay(self):
        tables = {"s": PAIRS, "r": (1, ())}
        edits = [("drop", "r"), ("put", "s", (0, 0)), ("take", "s", (1, 2))]
        changed(tables, edits)
        self.assertEqual(list(tables.items()), [("s", PAIRS), ("r", (1, ()))])
        self.assertEqual(edits, [("drop", "r"), ("put", "s", (0, 0)), ("take", "s", (1, 2))])

    def test_no_table(self):
        for edit in [("drop", "q"), ("put", "q", (1,)), ("take", "q", (1, 2))]:
            error = self.raised({"r": (1, ())}, [("put", "r", (1,)), edit, ("table", "r", 1)])
            self.assertIs(type(error), NoTable)
            self.assertEqual(error.name, "q")
        self.assertIs(type(self.raised({"r": (1, ())}, [("drop", "r"), ("drop", "r")])), NoTable)

    def test_twice(self):
        error = self.raised({"r": (1, ())}, [("table", "q", 1), ("table", "r", 1), ("drop", "x")])
        self.assertIs(type(error), Twice)
        self.assertEqual(error.name, "r")
        self.assertEqual(self.raised({}, [("table", "q", 1), ("table", "q", 2)]).name, "q")

    def test_bad_row(self):
        for word in ["put", "take"]:
            for row in [(1,), (1, 2, 3)]:
                error = self.raised({"s": PAIRS}, [(word, "s", row), ("table", "s", 1)])
                self.assertIs(type(error), BadRow)
                self.assertEqual(error.name, "s")
                self.assertIs(error.row, row)

    def test_first_edit_that_cannot_be_made(self):
        bad = [("put", "s", (1,)), ("table", "s", 2), ("drop", "q")]
        for first, kind in [(0, BadRow), (1, Twice), (2, NoTable)]:
            edits = [("put", "s", (8, 8)), bad[first], *bad]
            self.assertIs(type(self.raised({"s": PAIRS}, edits)), kind)

    def test_drawn(self):
        for seed in range(20):
            edits = drawn_edits(drawing(seed), 60)
            tables = changed({}, edits)
            self.assertTrue(is_tables(tables))
            self.assertTrue(ascending(tables))
            half = changed(changed({}, edits[:30]), tuple(edits[30:]))
            self.assertEqual(half, tables)
            rows = {}
            for edit in edits:
                if edit[0] in ("table", "drop"):
                    rows[edit[1]] = set()
                elif edit[0] == "put":
                    rows[edit[1]].add(edit[2])
                else:
                    rows[edit[1]].discard(edit[2])
            for name in tables:
                self.assertEqual(tables[name][1], tuple(sorted(rows[name])))


if __name__ == "__main__":
    unittest.main()
