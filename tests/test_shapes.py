"""[32], [33], [2], [3], [4]: shapes, the points that they have, and shapes put together."""

import copy
import unittest

from enoughlooks.errors import LookError, NoShape
from enoughlooks.shapes import cut, is_in, is_shape, is_within, line_of, meet, places_many, points_of, shape_of, without_not
from plain_papers import drawn_cases, exchanged, parts_within
from plain_questions import drawn_question, nested_questions, plain_answers, plain_children, plain_lets, plain_path, plain_places
from plain_questions import plain_shape, plain_way
from plain_shapes import drawn_shape, in_line, like, plain_had_points, plain_line, shaped
from values import any_values, ascending, drawing

ATOMS = (("has", "r", ("a",)), ("has", "s", ("a", "c")), ("has", "t", ("a", "b")), ("not", "u", ("a", "c")))
QUESTION = (("b", "a", "c"), ATOMS, ())
SHAPE = (((1, (((2, ()), (4, ())), ((5, ()), (6, ())))), (3, (((7, ()),), ((0, ()),)))),)


def drawn_shapes(seed, count, most_columns=4, most=3):
    """NESTED QUESTIONS with a SHAPE of each."""
    draw = drawing(seed)
    questions = nested_questions() + [drawn_question(draw, most_columns) for _ in range(count)]
    return [(question, drawn_shape(draw, question, most)) for question in questions]


def wide():
    """A question of eight roots, and a SHAPE of it with 200 ** 8 points."""
    columns = tuple("abcdefgh")
    question = (columns, tuple(("has", "r" + column, (column,)) for column in columns), ())
    return question, (tuple((value, ()) for value in range(200)),) * 8


class TestLine(unittest.TestCase):
    def test_by_hand(self):
        self.assertEqual(line_of(QUESTION), ("a", "b", "c"))
        atoms = (("has", "r", ("d", "a")), ("has", "s", ("b", "c", "d")), ("has", "t", ("f",)), ("has", "u", ("d",)))
        self.assertEqual(line_of((("f", "c", "d", "a", "b"), atoms, ())), ("f", "d", "c", "b", "a"))

    def test_drawn(self):
        for question, shape in drawn_shapes(32, 80):
            self.assertEqual(line_of(question), tuple(plain_line(question)))


class TestIsShape(unittest.TestCase):
    def all_are(self, truth, things, question=QUESTION):
        for thing in things:
            self.assertIs(is_shape(question, thing), truth, repr(thing)[:200])

    def test_by_hand(self):
        low = ((5, ()),)
        self.all_are(True, [None, SHAPE, (((1, (low, low)),),), (((-10 ** 39, (low, low)), (1, (low, low))),)])
        self.all_are(False, [
            (), ((),), ((), ()), (((1, (low, ())),),), (((1, (low, None)),),), (((1, None),),), (((1, ()),),), (((1, (low,)),),),
            (((1, (low, low, low)),),), (((1, (low, low)), (1, (low, low))),), (((2, (low, low)), (1, (low, low))),),
            (((True, (low, low)),),), ((("1", (low, low)),),), (((None, (low, low)),),), (((1, [low, low]),),), ([(1, (low, low))],),
            [((1, (low, low)),)], (([1, (low, low)],),), (((1, (low, low), ()),),), (((1,),),), ((1, (low, low)),), (1,), ((1,),),
            (((1, (low, ((5, None),))),),), (((1, (low, ((5, ((),)),))),),), (((1, (low, ((5, []),))),),),
            (((1, (low, ((5, low),))),),), SHAPE + SHAPE,
        ])

    def test_ranges(self):
        question = (("a",), (("has", "r", ("a",)),), (("a", 2, 4),))
        self.all_are(True, [(((2, ()), (4, ())),), (((3, ()),),)], question)
        self.all_are(False, [(((1, ()), (4, ())),), (((2, ()), (5, ())),)], question)
        below = (("a", "b"), (("has", "r", ("a", "b")),), (("b", 0, None),))
        self.all_are(True, [(((-5, (((0, ()),),)),),)], below)
        self.all_are(False, [(((-5, (((-1, ()),),)),),)], below)

    def test_any_value(self):
        for thing in any_values():
            self.all_are(thing is None, [thing])
            self.all_are(False, [(thing,), ((thing,),), (((1, thing),),)])
            if thing not in (-1, 10 ** 39) or thing is True:
                self.all_are(False, [(((thing, SHAPE[0][1][1]),),)])

    def test_of_answers(self):
        for question, tables in drawn_cases(320, 60):
            self.assertIs(is_shape(question, plain_shape(question, plain_answers(question, tables))), True)

    def test_one_thing_otherwise(self):
        draw = drawing(321)
        for question, shape in drawn_shapes(322, 60):
            self.assertIs(is_shape(question, shape), True)
            if shape is None:
                continue
            others = [None, (), ((),), (1, ()), True, "1", 99, -99] + parts_within(shape)[:20]
            for _ in range(20):
                thing = exchanged(draw, shape, others)
                self.assertIs(is_shape(question, thing), self.has_form(question, thing), repr(thing)[:300])

    def has_form(self, question, thing, parent=None):
        if parent is None and thing is None:
            return True
        columns = plain_children(question, parent)
        if type(thing) is not tuple or len(thing) != len(columns):
            return False
        for column, branch in zip(columns, thing):
            if type(branch) is not tuple or not branch:
                return False
            if not all(type(place) is tuple and len(place) == 2 and type(place[0]) is int for place in branch):
                return False
            values = [value for value, below in branch]
            if not ascending(values) or not all(plain_lets(question, column, value) for value in values):
                return False
            if not all(self.has_form(question, below, column) for value, below in branch):
                return False
        return True


class TestPoints(unittest.TestCase):
    def test_there_and_back(self):
        for question, shape in drawn_shapes(323, 120):
            points = points_of(question, shape)
            self.assertIs(type(points), tuple)
            self.assertTrue(ascending(points))
            self.assertEqual(set(points), plain_had_points(question, shape))
            self.assertEqual(shape_of(question, points), shape)

    def test_places(self):
        self.assertEqual([places_many(None), places_many(()), places_many(SHAPE), places_many(wide()[1])], [0, 0, 8, 1600])
        for question, shape in drawn_shapes(324, 60):
            self.assertEqual(places_many(shape), plain_places(shape))

    def test_no_shape(self):
        one = (("a",), (("has", "r", ("a",)),), ())
        self.assertEqual(shape_of(one, ((1,), (5,))), (((1, ()), (5, ())),))
        two = (("a", "b"), (("has", "r", ("a",)), ("has", "s", ("b",))), ())
        self.assertEqual(shape_of(two, ((1, 2), (1, 3))), (((1, ()),), ((2, ()), (3, ()))))
        for points in [((1, 2), (2, 3)), ((1, 2), (1, 3), (2, 2))]:
            with self.assertRaises(NoShape) as caught:
                shape_of(two, points)
            self.assertIsInstance(caught.exception, LookError)
        below = (("a", "b"), (("has", "r", ("a", "b")),), ())
        self.assertEqual(shape_of(below, ((1, 2), (2, 3))), (((1, (((2, ()),),)), (2, (((3, ()),),))),))
        with self.assertRaises(NoShape):
            shape_of(QUESTION, ((2, 1, 5), (2, 1, 6), (4, 1, 5)))

    def test_no_shape_of_very_many(self):
        question, shape = wide()
        with self.assertRaises(NoShape):
            shape_of(question, tuple((value,) * 8 for value in range(200)))

    def test_some_points(self):
        draw = drawing(325)
        seen = set()
        for question, shape in drawn_shapes(326, 150, most_columns=3):
            points = sorted(plain_had_points(question, shape))
            some = tuple(point for point in points if draw.random() < 0.8)
            expected = shaped(question, some)
            seen.add(expected == "no")
            if expected == "no":
                with self.assertRaises(NoShape):
                    shape_of(question, some)
            else:
                self.assertEqual(shape_of(question, some), expected)
        self.assertEqual(seen, {True, False})

    def test_is_in(self):
        draw = drawing(327)
        for question, shape in drawn_shapes(328, 80):
            points = plain_had_points(question, shape)
            tried = [tuple(draw.randrange(-6, 6) for _ in question[0]) for _ in range(15)]
            tried += [tuple(draw.choice([value, value, value, value + 1]) for value in point) for point in sorted(points)[:15]]
            for point in tried:
                self.assertIs(is_in(question, shape, point), point in points)
        question, shape = wide()
        self.assertIs(is_in(question, shape, tuple(range(8))), True)
        self.assertIs(is_in(question, shape, (0, 1, 2, 3, 4, 5, 6, 200)), False)


class TestMeet(unittest.TestCase):
    def test_by_hand(self):
        self.assertEqual(meet(SHAPE, SHAPE), SHAPE)
        self.assertEqual([meet(SHAPE, None), meet(None, SHAPE), meet(None, None)], [None, None, None])
        other = (((1, (((2, ()), (3, ())), ((5, ()),))), (3, (((8, ()),), ((0, ()),))), (9, (((2, ()),), ((5, ()),)))),)
        self.assertEqual(meet(SHAPE, other), (((1, (((2, ()),), ((5, ()),))),),))
        self.assertIsNone(meet(SHAPE, (other[0][1:],)))

    def test_drawn(self):
        draw = drawing(33)
        for question, shape in drawn_shapes(330, 100):
            for other in (like(draw, question, shape), drawn_shape(draw, question, 6)):
                expected = plain_had_points(question, shape) & plain_had_points(question, other)
                self.assertEqual(meet(shape, other), shaped(question, expected))
                self.assertEqual(meet(other, shape), shaped(question, expected))

    def test_very_many(self):
        question, shape = wide()
        self.assertEqual(meet(shape, shape), shape)
        none = shape[:7] + (((500, ()),),)
        self.assertIsNone(meet(shape, none))


class TestCut(unittest.TestCase):
    def test_drawn(self):
        draw = drawing(331)
        for question, shape in drawn_shapes(332, 100):
            points = plain_had_points(question, shape)
            for at, column in enumerate(question[0]):
                low, high = draw.choice([None, *range(-5, 5)]), draw.choice([None, *range(-5, 5)])
                left = {point for point in points if (low is None or point[at] >= low) and (high is None or point[at] <= high)}
                self.assertEqual(cut(question, shape, column, low, high), shaped(question, left))

    def test_to_all_and_to_nothing(self):
        for column in QUESTION[0]:
            self.assertEqual(cut(QUESTION, SHAPE, column, None, None), SHAPE)
            self.assertEqual(cut(QUESTION, SHAPE, column, -100, 100), SHAPE)
            self.assertIsNone(cut(QUESTION, SHAPE, column, 100, None))
            self.assertIsNone(cut(QUESTION, SHAPE, column, None, -100))
            self.assertIsNone(cut(QUESTION, SHAPE, column, 5, 4))
            self.assertIsNone(cut(QUESTION, None, column, None, None))
        self.assertEqual(cut(QUESTION, SHAPE, "b", 7, 7), (SHAPE[0][1:],))
        self.assertEqual(cut(QUESTION, SHAPE, "a", 1, 2), (SHAPE[0][:1],))

    def test_very_many(self):
        question, shape = wide()
        self.assertEqual(cut(question, shape, "h", 3, 4), shape[:7] + (((3, ()), (4, ())),))


class TestWithoutNot(unittest.TestCase):
    def test_drawn(self):
        draw = drawing(333)
        for question, shape in drawn_shapes(334, 150):
            points = sorted(plain_had_points(question, shape))
            for atom in [index for index, told in enumerate(question[1]) if told[0] == "not"]:
                places = [question[0].index(column) for column in plain_way(question, atom)]
                parts = [tuple(point[place] for place in places) for point in points]
                for rows in [[], parts[:1], tuple(parts[::2]), draw.sample(parts, len(parts) // 2) + [(9,) * len(places)], parts]:
                    left = [point for point, part in zip(points, parts) if part not in rows]
                    self.assertEqual(without_not(question, shape, atom, rows), shaped(question, left))

    def test_by_hand(self):
        self.assertEqual(without_not(QUESTION, SHAPE, 3, ()), SHAPE)
        self.assertIsNone(without_not(QUESTION, None, 3, [(1, 5)]))
        self.assertEqual(without_not(QUESTION, SHAPE, 3, [(1, 6), (1, 5), (1, 5)]), (SHAPE[0][1:],))
        self.assertIsNone(without_not(QUESTION, SHAPE, 3, [(3, 0), (1, 6), (1, 5)]))
        # Rows stand in the order of the way, whatever that of the atom.
        turned = (("a", "b"), (("has", "r", ("a", "b")), ("not", "n", ("b", "a"))), ())
        self.assertEqual(without_not(turned, (((1, (((2, ()),),)), (2, (((1, ()),),))),), 1, [(1, 2)]), (((2, (((1, ()),),)),),))


class TestIsWithin(unittest.TestCase):
    def test_by_hand(self):
        self.assertEqual([is_within(None, None), is_within(None, SHAPE), is_within(SHAPE, None), is_within(SHAPE, SHAPE)],
                         [True, True, False, True])
        self.assertIs(is_within((SHAPE[0][1:],), SHAPE), True)
        self.assertIs(is_within(SHAPE, (SHAPE[0][1:],)), False)

    def test_drawn(self):
        draw = drawing(335)
        seen = set()
        for question, shape in drawn_shapes(336, 150, most_columns=3, most=2):
            for other in (like(draw, question, shape), drawn_shape(draw, question), meet(shape, like(draw, question, shape))):
                truth = plain_had_points(question, other) <= plain_had_points(question, shape)
                seen.add(truth)
                self.assertIs(is_within(other, shape), truth)
                self.assertIs(is_within(shape, other), plain_had_points(question, shape) <= plain_had_points(question, other))
        self.assertEqual(seen, {True, False})


class TestArguments(unittest.TestCase):
    def test_they_stay_as_they_were(self):
        rows = [(1, 6), (3, 0)]
        held = copy.deepcopy(rows)
        without_not(QUESTION, SHAPE, 3, rows)
        self.assertEqual(rows, held)

    def test_paths(self):
        # The question's own order of columns does not matter for what stands in line.
        for question, shape in drawn_shapes(337, 40):
            points = in_line(question, plain_had_points(question, shape))
            self.assertEqual(tuple(sorted(points)), points_of(question, shape))
            self.assertTrue(all(plain_line(question).index(above) < plain_line(question).index(column)
                                for column in question[0] for above in plain_path(question, column)[:-1]))


if __name__ == "__main__":
    unittest.main()
