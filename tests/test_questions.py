"""[20], [2], [3], [4]: questions looked into, narrowed and put in another order."""

import unittest

from enoughlooks.forms import is_question
from enoughlooks.questions import atoms_of, in_order, is_point, lets, names_of, narrowed, part_of, range_of
from plain_questions import drawn_any_question, plain_atoms, plain_lets
from values import any_values, drawing

ATOMS = (("has", "r", ("a",)), ("has", "s", ("b", "a")), ("not", "n", ("a", "b")), ("has", "t", ("a", "c")))
BARE = (("a", "b", "c"), ATOMS, ())
RANGED = (("a", "b", "c"), ATOMS, (("c", 3, None), ("b", None, 8), ("a", -1, 4)))


class TestLookedInto(unittest.TestCase):
    def test_atoms_of(self):
        self.assertEqual([atoms_of(BARE, column) for column in "abc"], [(0, 1, 2, 3), (1, 2), (3,)])

    def test_range_of(self):
        self.assertEqual([range_of(RANGED, column) for column in "abc"], [(-1, 4), (None, 8), (3, None)])
        self.assertEqual([range_of(BARE, column) for column in "abc"], [(None, None)] * 3)
        self.assertEqual(range_of((("a", "b", "c"), ATOMS, (("a", None, None),)), "a"), (None, None))

    def test_lets(self):
        self.assertEqual([lets(RANGED, "a", value) for value in (-2, -1, 0, 4, 5)], [False, True, True, True, False])
        self.assertEqual([lets(RANGED, "b", value) for value in (-10 ** 39, 8, 9)], [True, True, False])
        self.assertEqual([lets(RANGED, "c", value) for value in (2, 3, 10 ** 39)], [False, True, True])
        self.assertIs(lets(BARE, "a", -10 ** 39), True)
        self.assertIs(lets(RANGED, "a", 5), False)
        nought = (("a", "b", "c"), ATOMS, (("a", 0, 0),))
        self.assertEqual([lets(nought, "a", value) for value in (-1, 0, 1)], [False, True, False])

    def test_part_of(self):
        self.assertEqual([part_of(BARE, atom, (5, 1, 7)) for atom in range(4)], [(5,), (1, 5), (5, 1), (5, 7)])
        turned = (("c", "b", "a"), ATOMS, ())
        self.assertEqual([part_of(turned, atom, (5, 1, 7)) for atom in range(4)], [(7,), (1, 7), (7, 1), (7, 5)])

    def test_names_of(self):
        self.assertEqual(names_of(BARE), ("n", "r", "s", "t"))
        self.assertEqual(names_of((("a",), (("has", "r", ("a",)),), ())), ("r",))

    def test_drawn(self):
        draw = drawing(20)
        for _ in range(100):
            question = drawn_any_question(draw)
            for column in question[0]:
                self.assertEqual(atoms_of(question, column), tuple(sorted(plain_atoms(question, column))))
                for value in range(-4, 10):
                    self.assertIs(lets(question, column, value), plain_lets(question, column, value))


class TestIsPoint(unittest.TestCase):
    def test_points(self):
        for point in [(-1, 8, 3), (4, -10 ** 39, 10 ** 39), (0, 0, 7)]:
            self.assertIs(is_point(RANGED, point), True, point)
        self.assertIs(is_point(BARE, (10 ** 39, -7, 0)), True)
        self.assertIs(is_point((("a",), ATOMS[:1], ()), (5,)), True)

    def test_no_points(self):
        for thing in [(-2, 0, 5), (5, 0, 5), (0, 9, 5), (0, 0, 2), (0, 0), (0, 0, 5, 0), [0, 0, 5], (True, 0, 5), (0, False, 5),
                      (0, None, 5), (0, "0", 5), ((0,), 0, 5), (), 0, "0 0 5", {0: 0}, (0, 0, (5,))]:
            self.assertIs(is_point(RANGED, thing), False, repr(thing))

    def test_any_value(self):
        for question in [BARE, RANGED, (("a",), ATOMS[:1], ())]:
            for thing in any_values():
                self.assertIs(is_point(question, thing), False, repr(thing))


class TestNarrowed(unittest.TestCase):
    def ranges(self, question, *bounds):
        other = narrowed(question, *bounds)
        self.assertIs(is_question(other), True)
        self.assertEqual(other[:2], question[:2])
        return other[2]

    def test_in_the_place_of_the_one_it_had(self):
        self.assertEqual(self.ranges(RANGED, "b", 3, None), (("c", 3, None), ("b", 3, 8), ("a", -1, 4)))
        self.assertEqual(self.ranges(RANGED, "c", 1, 9), (("c", 3, 9), ("b", None, 8), ("a", -1, 4)))
        self.assertEqual(self.ranges(RANGED, "a", 0, 3), (("c", 3, None), ("b", None, 8), ("a", 0, 3)))
        self.assertEqual(self.ranges(RANGED, "a", -9, 9), RANGED[2])
        self.assertEqual(self.ranges(RANGED, "a", None, None), RANGED[2])

    def test_behind_the_others(self):
        less = (BARE[0], ATOMS, (("c", 3, None),))
        self.assertEqual(self.ranges(less, "a", 0, None), (("c", 3, None), ("a", 0, None)))
        self.assertEqual(self.ranges(less, "a", None, 0), (("c", 3, None), ("a", None, 0)))
        self.assertEqual(self.ranges(BARE, "b", 4, 4), (("b", 4, 4),))

    def test_to_all(self):
        self.assertEqual(narrowed(BARE, "c", None, None), BARE)
        open_range = (BARE[0], ATOMS, (("a", 0, 1), ("c", None, None), ("b", None, 5)))
        self.assertEqual(self.ranges(open_range, "c", None, None), (("a", 0, 1), ("b", None, 5)))
        self.assertEqual(self.ranges(open_range, "c", None, 3), (("a", 0, 1), ("c", None, 3), ("b", None, 5)))
        self.assertEqual(self.ranges(open_range, "b", None, None), open_range[2])

    def test_to_nothing(self):
        for bounds in [("a", 5, None), ("a", None, -2), ("b", 9, None), ("c", None, 2), ("c", 5, 4), ("a", 3, 1)]:
            self.assertIsNone(narrowed(RANGED, *bounds), bounds)
        self.assertIsNone(narrowed(BARE, "a", 1, 0))
        self.assertEqual(self.ranges(RANGED, "b", 8, None)[1], ("b", 8, 8))

    def test_it_lets_just_those(self):
        draw = drawing(21)
        for _ in range(300):
            question = drawn_any_question(draw)
            column = draw.choice(question[0])
            low, high = draw.choice([None, draw.randrange(-4, 8)]), draw.choice([None, draw.randrange(-4, 8)])
            other = narrowed(question, column, low, high)
            kept = [value for value in range(-20, 30) if plain_lets(question, column, value)
                    and (low is None or value >= low) and (high is None or value <= high)]
            if other is None:
                self.assertEqual(kept, [])
                continue
            self.assertEqual([value for value in range(-20, 30) if lets(other, column, value)], kept)
            for each in question[0]:
                if each != column:
                    self.assertEqual(range_of(other, each), range_of(question, each))


class TestInOrder(unittest.TestCase):
    def test_in_order(self):
        self.assertEqual(in_order(RANGED, ("c", "a", "b")), (("c", "a", "b"), ATOMS, RANGED[2]))
        self.assertEqual(in_order(RANGED, ("a", "b", "c")), RANGED)


if __name__ == "__main__":
    unittest.main()
