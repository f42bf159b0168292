"""[28], [7], [2], [3]: points of which no two lie in one box."""

import copy
import itertools
import unittest

from enoughlooks.apart import apart_points, common_box, is_apart
from enoughlooks.least import least
from plain_papers import drawn_cases, plain_least
from plain_questions import plain_boxes, plain_holds, plain_is_answer, plain_lets, plain_points
from values import any_values, ascending, drawing

TABLES = {"n": (1, ((4,),)), "r": (2, ((1, 5), (1, 7), (4, 5))), "s": (1, ((1,), (2,), (4,)))}
QUESTION = (("a", "b"), (("has", "r", ("a", "b")), ("has", "s", ("a",)), ("not", "n", ("a",))), (("b", -9, 9),))


def plain_is_apart(question, tables, points):
    boxes = plain_boxes(question, tables)
    if len(set(points)) < len(points) or any(plain_is_answer(question, tables, point) for point in points):
        return False
    return all(sum(plain_holds(question, box, point) for point in points) < 2 for box in boxes)


class TestApartPoints(unittest.TestCase):
    def check(self, question, tables):
        held = copy.deepcopy(tables)
        points = apart_points(question, tables)
        self.assertIs(type(points), list)
        self.assertEqual(len(points), least(question, tables))
        self.assertTrue(ascending(points))
        for point in points:
            self.assertTrue(all(type(value) is int and plain_lets(question, column, value) for column, value in zip(question[0], point)))
        self.assertTrue(plain_is_apart(question, tables, points))
        self.assertIs(is_apart(question, tables, points), True)
        self.assertEqual(tables, held)
        return points

    def test_drawn(self):
        for question, tables in drawn_cases(28, 250):
            self.check(question, tables)

    def test_no_more_can_be_apart(self):
        for question, tables in drawn_cases(280, 60, most_columns=3, most_rows=4):
            self.assertEqual(len(apart_points(question, tables)), plain_least(question, tables))

    def test_several_roots(self):
        atoms = (("has", "r", ("a",)), ("has", "s", ("b",)), ("has", "t", ("c",)))
        question = (("a", "b", "c"), atoms, ())
        full, empty = (1, ((2,), (5,))), (1, ())
        self.assertEqual(len(self.check(question, {"r": full, "s": full, "t": full})), 9)
        self.assertEqual(len(self.check(question, {"r": full, "s": empty, "t": full})), 1)
        self.assertEqual(len(self.check(question, {"r": empty, "s": empty, "t": full})), 1)
        barred = (("a", "b", "c"), atoms + (("not", "m", ("a",)), ("not", "n", ("c",))), ())
        tables = {"m": full, "n": full, "r": full, "s": full, "t": (1, ((2,),))}
        self.assertEqual(len(self.check(barred, tables)), 3)

    def test_several_children(self):
        atoms = (("has", "r", ("a", "b")), ("has", "s", ("a", "c")), ("has", "t", ("d", "a")), ("not", "n", ("a", "c")))
        tables = {"n": (2, ((1, 3), (2, 4), (2, 8))), "r": (2, ((1, 3), (2, 2), (2, 8))), "s": (2, ((1, 3), (1, 9), (2, 4), (2, 8))),
                  "t": (2, ((3, 1), (9, 1), (7, 2)))}
        for ranges in [(), (("a", None, 2),), (("a", 1, None), ("b", 4, None)), (("b", 8, 8), ("c", None, 8)), (("a", 0, 3), ("d", 8, None)),
                       (("a", 1, 2), ("b", 5, 5)), (("c", 20, 30),), (("a", -7, -7),), (("a", None, -7), ("b", None, -7), ("d", None, 100))]:
            for columns in [("a", "b", "c", "d"), ("d", "c", "b", "a")]:
                self.check((columns, atoms, ranges), tables)

    def test_no_points(self):
        narrow = (("a",), (("has", "s", ("a",)),), (("a", 2, 2),))
        self.assertEqual(apart_points(narrow, TABLES), [])
        self.assertEqual(apart_points((("a",), narrow[1], (("a", 3, 3),)), TABLES), [(3,)])

    def test_below_all_that_is_there(self):
        question = (("a",), (("has", "s", ("a",)), ("has", "n", ("a",))), ())
        point = self.check(question, TABLES)[0]
        self.assertLess(point[0], 1)
        for last in (-50, 0, 1, 3):
            self.assertLessEqual(self.check((("a",), question[1], (("a", None, last),)), TABLES)[-1][0], last)

    def test_what_is_returned_is_new(self):
        apart_points(QUESTION, TABLES).clear()
        self.assertEqual(len(apart_points(QUESTION, TABLES)), 7)


class TestIsApart(unittest.TestCase):
    def all_are(self, truth, things):
        for thing in things:
            self.assertIs(is_apart(QUESTION, TABLES, thing), truth, repr(thing)[:200])

    def test_by_hand(self):
        self.all_are(True, [[], (), [(0, 0)], ((2, 1), (0, 5)), [(1, 4), (1, 6), (1, 8), (4, 5)]])
        # A point twice, an ANSWER, two in one box, one that is barred twice.
        self.all_are(False, [[(0, 0), (0, 0)], [(1, 5)], [(0, 0), (1, 5)], [(2, 0), (3, 0)], [(1, 0), (1, 4)], [(4, 5), (4, 7)]])

    def test_values_that_are_no_points(self):
        self.all_are(False, [[(0,)], [(0, 0, 0)], [[0, 0]], [(0, True)], [(0, None)], [(0, "1")], {(0, 0): 1}, (0, 0), [(0, 10)], [(0, -10)],
                             [(0, 0), 1], "ab", None, [None], [()], ((),)])

    def test_any_value(self):
        for thing in any_values():
            self.all_are(thing in ([], ()), [thing])
            self.all_are(False, [[thing], (thing, (0, 0)), [(0, thing)] if thing != -1 else None, {(0, 0): thing}])

    def test_drawn(self):
        draw = drawing(281)
        for question, tables in drawn_cases(282, 60, most_columns=3):
            points = plain_points(question, tables)
            for size in (1, 2, 2, 3, 4):
                chosen = draw.sample(points, min(size, len(points)))
                self.assertIs(is_apart(question, tables, chosen), plain_is_apart(question, tables, chosen))
            # Most of those that are apart, with one more, or with an ANSWER.
            apart = apart_points(question, tables)
            for more in draw.sample(points, min(4, len(points))):
                self.assertIs(is_apart(question, tables, tuple(apart + [more])), plain_is_apart(question, tables, apart + [more]))
            self.assertIs(is_apart(question, tables, apart[1:]), True)


class TestCommonBox(unittest.TestCase):
    def test_drawn(self):
        draw = drawing(283)
        for question, tables in drawn_cases(284, 60, most_columns=3):
            boxes = plain_boxes(question, tables)
            points = plain_points(question, tables)
            some = draw.sample(points, min(6, len(points)))
            held = {point: [box for box in boxes if plain_holds(question, box, point)] for point in some}
            for one, other in itertools.product(some, some):
                both = [box for box in held[one] if box in held[other]]
                self.assertEqual(common_box(question, tables, one, other), both[0] if both else None)

    def test_the_first_of_several(self):
        self.assertEqual(common_box(QUESTION, TABLES, (2, 0), (3, 8)), ("gap", 0, (), 1, 4))
        self.assertEqual(common_box(QUESTION, TABLES, (3, 0), (3, 8)), ("gap", 0, (), 1, 4))
        self.assertEqual(common_box(QUESTION, TABLES, (4, 5), (4, 5)), ("row", 2, (4,)))
        self.assertEqual(common_box(QUESTION, TABLES, (4, 5), (4, 9)), ("row", 2, (4,)))
        self.assertEqual(common_box(QUESTION, TABLES, (4, 6), (4, 9)), ("gap", 0, (4,), 5, None))
        self.assertIsNone(common_box(QUESTION, TABLES, (1, 5), (1, 5)))
        self.assertIsNone(common_box(QUESTION, TABLES, (1, 6), (4, 6)))


if __name__ == "__main__":
    unittest.main()
