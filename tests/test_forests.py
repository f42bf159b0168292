"""[23], [5], [2]: nested questions as forests, their ways, and the factor."""

import copy
import itertools
import unittest

from enoughlooks.forests import children_of, column_factor, crossing, end_of, ending, factor, is_nested, off_way, on_way, parent_of
from enoughlooks.forests import path_of, roots_of, through, way_of, way_rows
from plain_questions import drawn_any_question, drawn_question, drawn_tables, nested_questions, plain_atoms, plain_children
from plain_questions import plain_cross, plain_nested, plain_parent, plain_path, plain_way, plain_way_rows
from values import ascending, drawing

CROSSED = (("a", "b"), (("has", "r", ("a",)), ("has", "s", ("a", "b")), ("has", "t", ("b",))), ())


def drawn_nested(seed, count):
    draw = drawing(seed)
    return nested_questions() + [drawn_question(draw, 6, 8) for _ in range(count)]


def plain_factor(question, column):
    """The column_factor of a column, the factor of the question for None."""
    own = [atom for atom in plain_atoms(question, column)
           if question[1][atom][0] == "has" or plain_way(question, atom)[-1] == column]
    below = [plain_factor(question, child) for child in plain_children(question, column)]
    return len(own) + len(below) * max(below, default=0)


class TestCrossing(unittest.TestCase):
    def test_crossed(self):
        self.assertEqual(crossing(CROSSED), ("a", "b", 0, 2, 1))
        self.assertIs(is_nested(CROSSED), False)
        self.assertEqual(crossing((("b", "a"),) + CROSSED[1:]), ("b", "a", 2, 0, 1))

    def test_not_atoms_cross_as_well(self):
        question = (("a", "b"), (("has", "r", ("a",)), ("not", "s", ("a", "b")), ("has", "t", ("b",))), ())
        self.assertEqual(crossing(question), ("a", "b", 0, 2, 1))

    def test_several_ways(self):
        triangle = (("x", "y", "z"), (("has", "u", ("z", "x")), ("has", "r", ("x", "y")), ("has", "s", ("y", "z")),
                                      ("not", "t", ("z", "y")), ("has", "v", ("x",)), ("not", "w", ("y", "x"))), ())
        self.assertEqual(crossing(triangle), ("x", "y", 0, 2, 1))
        self.assertEqual(crossing((("z", "y", "x"),) + triangle[1:]), ("z", "y", 0, 1, 2))
        self.assertEqual(crossing((("z", "x", "y"),) + triangle[1:]), ("z", "x", 2, 1, 0))
        path = (("a", "b", "c", "d"), (("has", "r", ("a", "b")), ("has", "s", ("c", "b")), ("has", "t", ("c", "d"))), ())
        self.assertEqual(crossing(path), ("b", "c", 0, 2, 1))
        self.assertEqual(crossing((("d", "c", "b", "a"),) + path[1:]), ("c", "b", 2, 0, 1))

    def test_nested(self):
        for question in nested_questions():
            self.assertIsNone(crossing(question))
            self.assertIs(is_nested(question), True)

    def test_nested_exactly_if_none_cross(self):
        draw = drawing(5)
        met = []
        for _ in range(400):
            question = drawn_any_question(draw)
            couples = [couple for couple in itertools.combinations(question[0], 2) if plain_cross(question, *couple)]
            self.assertEqual(plain_nested(question), couples == [])
            self.assertIs(is_nested(question), couples == [])
            met.append(couples == [])
            if couples == []:
                self.assertIsNone(crossing(question))
                continue
            one, other = couples[0]
            mine, its = plain_atoms(question, one), plain_atoms(question, other)
            self.assertEqual(crossing(question), (one, other, min(mine - its), min(its - mine), min(mine & its)))
        self.assertGreater(met.count(True), 100)
        self.assertGreater(met.count(False), 100)


class TestForest(unittest.TestCase):
    def test_paths(self):
        for question in drawn_nested(23, 150):
            for column in question[0]:
                path = plain_path(question, column)
                self.assertEqual(path_of(question, column), path)
                self.assertEqual(parent_of(question, column), plain_parent(question, column))
                self.assertEqual(children_of(question, column), plain_children(question, column))
            self.assertEqual(roots_of(question), plain_children(question, None))

    def test_same_atoms_in_both_orders(self):
        for columns in [("x", "y"), ("y", "x")]:
            question = (columns, (("has", "u", ("y", "x")), ("not", "n", ("x", "y"))), ())
            self.assertEqual(roots_of(question), columns[:1])
            self.assertEqual([path_of(question, column) for column in columns], [columns[:1], columns])
            self.assertEqual([way_of(question, atom) for atom in (0, 1)], [columns, columns])
            self.assertEqual([end_of(question, atom) for atom in (0, 1)], [columns[1]] * 2)
            self.assertEqual([ending(question, column) for column in columns], [(), (1,)])
            self.assertEqual([through(question, column) for column in columns], [(0,), (0,)])
            self.assertEqual([parent_of(question, column) for column in columns], [None, columns[0]])
            self.assertEqual([children_of(question, column) for column in columns], [columns[1:], ()])

    def test_ways(self):
        for question in drawn_nested(24, 150):
            for atom, (word, name, columns) in enumerate(question[1]):
                way = plain_way(question, atom)
                self.assertEqual(way_of(question, atom), way)
                self.assertEqual(end_of(question, atom), way[-1])
                self.assertEqual(way, path_of(question, way[-1]))
            for column in question[0]:
                its = sorted(plain_atoms(question, column))
                self.assertEqual(through(question, column), tuple(atom for atom in its if question[1][atom][0] == "has"))
                self.assertEqual(ending(question, column), tuple(
                    atom for atom in its if question[1][atom][0] == "not" and plain_way(question, atom)[-1] == column))

    def test_on_way_and_off_way(self):
        question = (("c", "b", "a"), (("has", "r", ("a",)), ("has", "s", ("c", "b", "a")), ("not", "n", ("b", "a"))), ())
        self.assertEqual(way_of(question, 1), ("a", "b", "c"))
        self.assertEqual([on_way(question, 1, (7, 8, 9)), off_way(question, 1, (7, 8, 9))], [(9, 8, 7), (9, 8, 7)])
        turned = (("c", "b", "a"), (("has", "r", ("a",)), ("has", "s", ("b", "c", "a")), ("not", "n", ("b", "a"))), ())
        self.assertEqual([on_way(turned, 1, (7, 8, 9)), off_way(turned, 1, (9, 7, 8))], [(9, 7, 8), (7, 8, 9)])
        self.assertEqual(off_way(turned, 1, (7, 8, 9)), (8, 9, 7))

    def test_there_and_back(self):
        for question in drawn_nested(25, 100):
            for atom, (word, name, columns) in enumerate(question[1]):
                row = tuple(range(10, 10 + len(columns)))
                named = dict(zip(columns, row))
                self.assertEqual(on_way(question, atom, row), tuple(named[column] for column in plain_way(question, atom)))
                self.assertEqual(off_way(question, atom, on_way(question, atom, row)), row)
                self.assertEqual(on_way(question, atom, off_way(question, atom, row)), row)

    def test_way_rows(self):
        draw = drawing(26)
        for question in drawn_nested(26, 80):
            tables = drawn_tables(draw, question)
            elder = copy.deepcopy(tables)
            for atom in range(len(question[1])):
                rows = way_rows(question, tables, atom)
                self.assertIs(type(rows), tuple)
                self.assertEqual(rows, tuple(sorted(plain_way_rows(question, tables, atom))))
                self.assertTrue(ascending(rows))
            self.assertEqual(list(tables.items()), list(elder.items()))


class TestFactor(unittest.TestCase):
    def test_column_factor(self):
        atoms = (("has", "r", ("a",)), ("has", "s", ("b", "a")), ("not", "n", ("a", "b")), ("has", "t", ("a", "c")),
                 ("not", "m", ("a",)), ("has", "w", ("d",)), ("not", "k", ("c", "a")), ("not", "l", ("a", "c")))
        question = (("c", "d", "a", "b"), atoms, ())
        self.assertEqual([column_factor(question, column) for column in "abcd"], [4 + 2 * 3, 2, 3, 1])
        self.assertEqual(factor(question), 2 * 10)

    def test_one_column(self):
        question = (("a",), (("has", "r", ("a",)),), ())
        self.assertEqual([column_factor(question, "a"), factor(question)], [1, 1])

    def test_drawn(self):
        for question in drawn_nested(27, 150):
            for column in question[0]:
                self.assertEqual(column_factor(question, column), plain_factor(question, column))
            self.assertEqual(factor(question), plain_factor(question, None))


if __name__ == "__main__":
    unittest.main()
