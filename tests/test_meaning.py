"""[22], [3]: the plain meaning of questions, nested or not."""

import copy
import itertools
import unittest

from enoughlooks.errors import TooMany
from enoughlooks.meaning import answers, candidates, is_answer
from enoughlooks.questions import in_order, is_point
from plain_questions import drawn_any_question, drawn_tables, plain_answers, plain_is_answer, plain_lets, plain_points
from values import ascending, drawing


def unary(count):
    return 1, tuple((value,) for value in range(count))


def apart(counts):
    """A question with a column of its own for each count, and TABLES that have so many candidates there."""
    columns = tuple("abcdefgh"[:len(counts)])
    atoms = tuple(("has", f"t{column}", (column,)) for column in columns)
    return (columns, atoms, ()), {f"t{column}": unary(count) for column, count in zip(columns, counts)}


class TestCandidates(unittest.TestCase):
    def test_of_all_has_atoms_and_the_range(self):
        question = (("a", "b"), (("has", "r", ("b", "a")), ("has", "s", ("a",)), ("not", "n", ("a",))), (("a", 2, 9),))
        tables = {"r": (2, ((1, 7), (2, 2), (2, 3), (3, 1), (3, 9), (5, 10))), "s": (1, ((1,), (2,), (3,), (7,), (9,), (10,))),
                  "n": (1, ((2,), (8,)))}
        self.assertEqual(candidates(question, tables, "a"), (2, 3, 7, 9))
        self.assertEqual(candidates(question, tables, "b"), (1, 2, 3, 5))
        self.assertEqual(candidates(question, {**tables, "s": (1, ())}, "a"), ())
        self.assertEqual(candidates(question[:2] + ((("b", None, 2),),), tables, "b"), (1, 2))

    def test_drawn(self):
        draw = drawing(22)
        for _ in range(200):
            question = drawn_any_question(draw)
            tables = drawn_tables(draw, question)
            for column in question[0]:
                its = candidates(question, tables, column)
                self.assertTrue(ascending(its))
                for value in range(-6, 12):
                    there = all(any(row[columns.index(column)] == value for row in tables[name][1])
                                for word, name, columns in question[1] if word == "has" and column in columns)
                    self.assertEqual(value in its, there and plain_lets(question, column, value))


class TestAnswers(unittest.TestCase):
    def test_is_answer(self):
        question = (("a", "b"), (("has", "r", ("b", "a")), ("not", "n", ("a",))), ())
        tables = {"r": (2, ((1, 7), (2, 8))), "n": (1, ((8,),))}
        self.assertIs(is_answer(question, tables, (7, 1)), True)
        for point in [(1, 7), (8, 2), (7, 2), (0, 0)]:
            self.assertIs(is_answer(question, tables, point), False, point)
        self.assertIs(is_answer(question, {**tables, "n": (1, ())}, (8, 2)), True)

    def test_held_against_going_through_all_points(self):
        draw = drawing(22)
        met = 0
        for _ in range(250):
            question = drawn_any_question(draw, 3)
            tables = drawn_tables(draw, question, 20)
            points = plain_points(question, tables)
            found = answers(question, tables)
            self.assertIs(type(found), list)
            self.assertEqual(found, plain_answers(question, tables))
            self.assertTrue(ascending(found))
            self.assertTrue(all(is_point(question, point) for point in found))
            for point in points[::7]:
                self.assertIs(is_answer(question, tables, point), plain_is_answer(question, tables, point))
            met += len(found)
        self.assertGreater(met, 1000)

    def test_order_of_the_columns(self):
        draw = drawing(23)
        for _ in range(60):
            question = drawn_any_question(draw, 3)
            tables = drawn_tables(draw, question)
            for columns in itertools.permutations(question[0]):
                places = [question[0].index(column) for column in columns]
                expected = sorted(tuple(point[place] for place in places) for point in answers(question, tables))
                self.assertEqual(answers(in_order(question, columns), tables), expected)

    def test_too_many(self):
        for counts in [(20000,), (100, 200), (20, 50, 20), (1, 1, 1, 1, 1, 1, 1, 20000)]:
            self.assertEqual(len(answers(*apart(counts))), 20000)
        for counts in [(20001,), (3, 59, 113), (200, 200), (200, 200, 200, 200, 200, 200, 200, 200), (1, 20001)]:
            with self.assertRaises(TooMany) as caught:
                answers(*apart(counts))
            self.assertEqual(caught.exception.most, 20000)

    def test_too_many_counts_candidates(self):
        question, tables = apart((200, 101))
        self.assertRaises(TooMany, answers, question, tables)
        narrow = question[:2] + ((("a", 100, None),),)
        self.assertEqual(len(answers(narrow, tables)), 100 * 101)
        # Candidates that are no answers count as well.
        barred = (question[0], question[1] + (("not", "n", ("a",)),), ())
        self.assertRaises(TooMany, answers, barred, {**tables, "n": unary(200)})
        self.assertEqual(answers(*apart((200, 200, 200, 200, 200, 0))), [])

    def test_new_each_time_and_arguments_stay(self):
        question, tables = apart((3, 2))
        elder = copy.deepcopy(tables)
        tables = {name: tables[name] for name in reversed(list(tables))}
        answers(question, tables).clear()
        self.assertEqual(len(answers(question, tables)), 6)
        candidates(question, tables, "a")
        is_answer(question, tables, (0, 0))
        self.assertEqual(tables, elder)
        self.assertEqual(list(tables), ["tb", "ta"])


if __name__ == "__main__":
    unittest.main()
