"""[34], [35], [2], [4]: points counted, and told one after the other, by the places of their shape."""

import collections
import unittest

from enoughlooks.counting import before, greatest_of, index_of, least_of, many_of, nth, page, pages, sum_of, values_of
from enoughlooks.errors import LookError, NoPoint
from plain_shapes import in_line, plain_had_points, plain_line
from test_shapes import QUESTION, SHAPE, drawn_shapes, wide
from values import ascending, drawing


def lined(question, point):
    return [point[question[0].index(column)] for column in plain_line(question)]


class TestCounting(unittest.TestCase):
    def test_drawn(self):
        for question, shape in drawn_shapes(34, 120):
            points = plain_had_points(question, shape)
            self.assertEqual(many_of(shape), len(points))
            for at, column in enumerate(question[0]):
                values = [point[at] for point in points]
                counts = values_of(question, shape, column)
                self.assertEqual(counts, dict(collections.Counter(values)))
                self.assertTrue(ascending(counts))
                self.assertEqual(sum_of(question, shape, column), sum(values))
                self.assertEqual(least_of(question, shape, column), min(values, default=None))
                self.assertEqual(greatest_of(question, shape, column), max(values, default=None))

    def test_no_points(self):
        self.assertEqual([many_of(None), values_of(QUESTION, None, "b"), sum_of(QUESTION, None, "b")], [0, {}, 0])
        self.assertEqual([least_of(QUESTION, None, "b"), greatest_of(QUESTION, None, "b")], [None, None])

    def test_very_many(self):
        question, shape = wide()
        self.assertEqual(many_of(shape), 200 ** 8)
        self.assertEqual(values_of(question, shape, "d"), {value: 200 ** 7 for value in range(200)})
        self.assertEqual(sum_of(question, shape, "h"), 199 * 100 * 200 ** 7)
        self.assertEqual([least_of(question, shape, "a"), greatest_of(question, shape, "h")], [0, 199])

    def test_the_dict_is_new(self):
        values_of(QUESTION, SHAPE, "b").clear()
        self.assertEqual(values_of(QUESTION, SHAPE, "b"), {2: 2, 4: 2, 7: 1})


class TestOneAfterTheOther(unittest.TestCase):
    def fails(self, index, function, *arguments):
        with self.assertRaises(NoPoint) as caught:
            function(*arguments)
        self.assertEqual(caught.exception.index, index)
        self.assertIsInstance(caught.exception, LookError)

    def test_drawn(self):
        for question, shape in drawn_shapes(35, 100):
            points = in_line(question, plain_had_points(question, shape))
            for index, point in list(enumerate(points))[:50] + list(enumerate(points))[-5:]:
                self.assertEqual(nth(question, shape, index), point)
                self.assertEqual(index_of(question, shape, point), index)
                self.assertEqual(before(question, shape, point), index)
            for index in (-1, -10 ** 30, len(points), len(points) + 1, 10 ** 30):
                self.fails(index, nth, question, shape, index)

    def test_points_that_are_none_of_them(self):
        draw = drawing(350)
        for question, shape in drawn_shapes(351, 100):
            points = plain_had_points(question, shape)
            tried = [tuple(draw.randrange(-6, 7) for _ in question[0]) for _ in range(10)]
            tried += [tuple(draw.choice([value, value, value - 1, value + 1]) for value in point) for point in sorted(points)[:20]]
            for point in tried:
                ahead = [other for other in points if lined(question, other) < lined(question, point)]
                self.assertEqual(before(question, shape, point), len(ahead))
                self.assertEqual(index_of(question, shape, point), len(ahead) if point in points else None)

    def test_pages(self):
        for question, shape in drawn_shapes(352, 100, most_columns=3):
            points = in_line(question, plain_had_points(question, shape))
            for many in (1, 2, 3, 7, 1000):
                expected = [points[first:first + many] for first in range(0, len(points), many)]
                self.assertEqual(pages(shape, many), len(expected))
                for index, its in list(enumerate(expected))[:4] + list(enumerate(expected))[-2:]:
                    self.assertEqual(page(question, shape, many, index), its)
                for index in (-1, -2, len(expected), 10 ** 30):
                    self.fails(index, page, question, shape, many, index)

    def test_no_points(self):
        self.fails(0, nth, QUESTION, None, 0)
        self.fails(0, page, QUESTION, None, 3, 0)
        self.assertEqual([pages(None, 3), before(QUESTION, None, (1, 2, 3)), index_of(QUESTION, None, (1, 2, 3))], [0, 0, None])

    def test_very_many(self):
        question, shape = wide()
        for index in (0, 1, 199, 200, 123456789012345678, 200 ** 8 - 1):
            digits = tuple(index // 200 ** (7 - place) % 200 for place in range(8))
            self.assertEqual(nth(question, shape, index), digits)
            self.assertEqual(index_of(question, shape, digits), index)
        self.fails(200 ** 8, nth, question, shape, 200 ** 8)
        self.assertEqual(before(question, shape, (500,) * 8), 200 ** 8)
        self.assertEqual(before(question, shape, (0, 500) + (0,) * 6), 200 ** 7)
        self.assertEqual(before(question, shape, (0,) * 7 + (-5,)), 0)
        self.assertEqual(pages(shape, 3), (200 ** 8 + 2) // 3)
        self.assertEqual(page(question, shape, 3, 200 ** 8 // 3), [(199,) * 8])
        self.assertEqual(page(question, shape, 2, 100 ** 8 * 2 ** 7 - 1), [(199,) * 7 + (198,), (199,) * 8])
        self.fails(200 ** 8 // 3 + 1, page, question, shape, 3, 200 ** 8 // 3 + 1)

    def test_the_list_is_new(self):
        page(QUESTION, SHAPE, 2, 0).clear()
        self.assertEqual(page(QUESTION, SHAPE, 2, 0), [(2, 1, 5), (2, 1, 6)])


if __name__ == "__main__":
    unittest.main()
