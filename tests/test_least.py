"""[27], [7], [5], [3]: the fewest boxes, and the paper with just so many."""

import copy
import unittest

from enoughlooks.boxes import is_cover, true_boxes
from enoughlooks.judge import is_paper, plain_paper
from enoughlooks.least import least, least_below, least_paper
from enoughlooks.papers import boxes_in, shape_told, size_of
from enoughlooks.questions import in_order
from plain_papers import can_be_apart, drawn_cases, least_of_all_sets, plain_least, plain_least_level, plain_least_paper, plain_masks
from plain_papers import plain_size, plain_tells, prefixes_at
from plain_questions import drawn_question, drawn_tables, plain_answers, plain_boxes, plain_shape
from values import drawing

ONE = (("a",), (("has", "r", ("a",)), ("has", "s", ("a",))), ())


def unary(*values):
    return 1, tuple((value,) for value in values)


def level_of(question, tables):
    """The LEVEL of the only root."""
    paper = least_paper(question, tables)
    return paper[1][0] if paper[0] == "all" else paper[2]


class TestGaps(unittest.TestCase):
    def gaps_of(self, r, s, low=None, high=None):
        ranges = () if low is None and high is None else (("a", low, high),)
        return level_of(ONE[:2] + (ranges,), {"r": unary(*r), "s": unary(*s)})[0]

    def test_the_greatest_high(self):
        self.assertEqual(self.gaps_of([1, 5, 9], [1, 9]), ((0, None, 1), (1, 1, 9), (0, 9, None)))
        self.assertEqual(self.gaps_of([1, 9], [1, 5, 9]), ((0, None, 1), (0, 1, 9), (0, 9, None)))
        self.assertEqual(self.gaps_of([1, 5], [1]), ((0, None, 1), (1, 1, None)))
        self.assertEqual(self.gaps_of([3, 5], [7, 9]), ((1, None, 7), (0, 5, None)))
        self.assertEqual(self.gaps_of([1, 2, 9], [1, 5, 9]), ((0, None, 1), (1, 1, 5), (0, 2, 9), (0, 9, None)))

    def test_the_least_atom_of_such(self):
        self.assertEqual(self.gaps_of([2], [2]), ((0, None, 2), (0, 2, None)))
        self.assertEqual(self.gaps_of([0, 4], [2, 4]), ((1, None, 2), (0, 0, 4), (0, 4, None)))
        self.assertEqual(self.gaps_of([1, 3, 9], [1, 5, 9]), ((0, None, 1), (1, 1, 5), (0, 3, 9), (0, 9, None)))
        self.assertEqual(self.gaps_of([], []), ((0, None, None),))
        self.assertEqual(self.gaps_of([1], []), ((1, None, None),))

    def test_ranges(self):
        self.assertEqual(self.gaps_of([1, 5], [1, 5], 1, 5), ((0, 1, 5),))
        self.assertEqual(self.gaps_of([1, 5], [1, 5], 5, 5), ())
        self.assertEqual(self.gaps_of([1, 5], [1, 3], 2, 3), ((0, 1, 5),))
        self.assertEqual(self.gaps_of([1, 5], [2, 5], 1, 1), ((1, None, 2),))
        self.assertEqual(self.gaps_of([1, 5], [1, 3], None, 0), ((0, None, 1),))
        self.assertEqual(self.gaps_of([1, 5], [3], None, 5), ((1, None, 3), (0, 1, 5), (1, 3, None)))
        self.assertEqual(self.gaps_of([1, 5], [1, 5], 2, None), ((0, 1, 5), (0, 5, None)))
        self.assertEqual(self.gaps_of([1, 5], [1, 5], 6, None), ((0, 5, None),))
        self.assertEqual(self.gaps_of([1, 5], [1, 5], None, 1), ((0, None, 1),))
        # Values side by side have no gap between them.
        self.assertEqual(self.gaps_of([1, 2, 3], [1, 2, 3], 1, 3), ())

    def test_values(self):
        tables = {"r": unary(1, 2, 5), "s": unary(1, 2, 4), "n": unary(2), "m": unary(1, 2)}
        question = (("a",), ONE[1] + (("not", "n", ("a",)), ("not", "m", ("a",))), ())
        self.assertEqual(level_of(question, tables)[1], ((1, ("row", 3)), (2, ("row", 2))))
        self.assertEqual(level_of(ONE, tables)[1], ((1, ("all", ())), (2, ("all", ()))))


class TestSiblings(unittest.TestCase):
    def paper(self, counts, barred=()):
        """Of roots side by side: as many values at each as told, all of them barred at some."""
        columns = "abcdef"[:len(counts)]
        atoms = tuple(("has", f"t{column}", (column,)) for column in columns) + tuple(("not", f"n{column}",
                       (column,)) for column in barred)
        tables = {f"{letter}{column}": unary(*range(0, 3 * count, 3)) for column, count in zip(columns, counts) for letter in "tn"}
        return least_paper((tuple(columns), atoms, ()), tables)

    def test_all_if_each_tells(self):
        self.assertEqual(self.paper([1, 2])[0], "all")
        self.assertEqual([len(level[0]) for level in self.paper([1, 2])[1]], [2, 3])

    def test_the_fewest_boxes_among_those_that_do_not(self):
        self.assertEqual(self.paper([1, 0])[:2], ("one", 1))
        self.assertEqual(self.paper([2, 3], "a")[:2], ("one", 0))
        self.assertEqual(self.paper([3, 2], "ab")[:2], ("one", 1))
        self.assertEqual(self.paper([3, 2, 4], "ac")[:2], ("one", 0))

    def test_the_first_of_such(self):
        self.assertEqual(self.paper([2, 2], "ab")[:2], ("one", 0))
        self.assertEqual(self.paper([4, 2, 2, 1], "abc")[:2], ("one", 1))
        self.assertEqual(self.paper([0, 0, 0])[:2], ("one", 0))

    def test_below(self):
        question = (("a", "b", "c"), (("has", "r", ("a", "b")), ("has", "s", ("a", "c")), ("not", "n", ("a", "c")),
                     ("not", "m", ("b", "a"))), ())
        tables = {"r": (2, ((1, 1), (1, 3), (2, 5))), "s": (2, ((1, 2), (2, 2))), "n": (2, ((1, 2), (2, 2))), "m": (2, ((5, 2),))}
        first = ("one", 1, (((1, None, 2), (1, 2, None)), ((2, ("row", 2)),)))
        # Behind 2 both have three boxes.
        second = ("one", 0, (((0, None, 5), (0, 5, None)), ((5, ("row", 3)),)))
        gaps = ((0, None, 1), (0, 2, None))
        self.assertEqual(least_paper(question, tables), ("one", 0, (gaps, ((1, first), (2, second)))))
        self.assertEqual(least(question, tables), 8)
        self.assertEqual([least_below(question, tables, "b", (1,)), least_below(question, tables, "c", (1,))],
                          [(3, True), (3, False)])
        self.assertEqual([least_below(question, tables, "b", (2,)), least_below(question, tables, "a", ())],
                          [(3, False), (8, False)])


class TestLeast(unittest.TestCase):
    def check(self, question, tables, expected):
        paper = least_paper(question, tables)
        self.assertEqual(least(question, tables), expected)
        self.assertEqual(size_of(paper), expected)
        self.assertIs(is_paper(question, tables, paper), True)
        self.assertIs(is_cover(question, tables, boxes_in(paper)), True)

    def test_against_all_sets_of_boxes(self):
        draw = drawing(7)
        met = {}
        while sum(met.values()) < 150:
            question = drawn_question(draw, 3, 4)
            tables = drawn_tables(draw, question, 4)
            if len(true_boxes(question, tables)) > 12:
                continue
            expected = least_of_all_sets(question, tables)
            self.check(question, tables, expected)
            met[expected] = met.get(expected, 0) + 1
        self.assertGreater(len(met), 5)

    def test_against_trying_each_box_of_a_point(self):
        draw = drawing(8)
        for _ in range(120):
            question = drawn_question(draw, 4, 5)
            tables = drawn_tables(draw, question, 6)
            if len(plain_boxes(question, tables)) < 30:
                self.check(question, tables, plain_least(question, tables))

    def test_as_many_points_are_apart(self):
        draw = drawing(9)
        met = 0
        while met < 80:
            question = drawn_question(draw, 3, 4)
            tables = drawn_tables(draw, question, 4)
            boxes, masks = plain_masks(question, tables)
            if len(boxes) <= 14:
                self.assertTrue(can_be_apart(sorted(masks, key=sorted), least(question, tables)))
                self.assertFalse(can_be_apart(sorted(masks, key=sorted), least(question, tables) + 1))
                met += 1

    def test_none_less(self):
        for question, tables in drawn_cases(45, 25, 3, 5):
            boxes = boxes_in(least_paper(question, tables))
            for at in range(len(boxes)):
                self.assertIs(is_cover(question, tables, boxes[:at] + boxes[at + 1:]), False)

    def test_it_hangs_on_the_order_of_the_question(self):
        question = (("x", "y"), (("has", "u", ("x", "y")),), ())
        tables = {"u": (2, ((1, 1), (1, 2), (1, 3)))}
        turned = in_order(question, ("y", "x"))
        self.assertEqual([least(question, tables), least(turned, tables)], [4, 8])
        self.assertEqual([least_of_all_sets(question, tables), least_of_all_sets(turned, tables)], [4, 8])

    def test_made_just_so(self):
        for question, tables in drawn_cases(46, 150):
            paper = least_paper(question, tables)
            self.assertEqual(paper, plain_least_paper(question, tables))
            self.assertEqual(shape_told(paper), plain_shape(question, plain_answers(question, tables)))
            self.assertLessEqual(size_of(paper), size_of(plain_paper(question, tables)))

    def test_least_below(self):
        met = 0
        for question, tables in drawn_cases(47, 60):
            for column in question[0]:
                for prefix in prefixes_at(question, tables, column):
                    level = plain_least_level(question, tables, column, prefix)
                    self.assertEqual(least_below(question, tables, column, prefix), (plain_size(level), plain_tells(level)))
                    self.assertIs(type(least_below(question, tables, column, prefix)[1]), bool)
                    met += len(prefix) > 0
        self.assertGreater(met, 100)

    def test_prefixes_beyond_the_ranges(self):
        question = (("a", "b"), (("has", "r", ("a", "b")), ("not", "n", ("a",))), (("a", 5, 6), ("b", None, 4)))
        tables = {"r": (2, ((1, 2), (1, 4), (6, 3))), "n": (1, ((1,), (6,)))}
        self.assertEqual([least_below(question, tables, "b", (1,)), least_below(question, tables, "b", (6,))],
                          [(2, True), (2, True)])
        self.assertEqual(least_below(question, tables, "a", ()), (2, False))

    def test_nothing_to_show(self):
        question = (("a",), (("has", "s", ("a",)),), (("a", 2, 2),))
        self.assertEqual([least(question, {"s": unary(2)}), least(question, {"s": unary(3)}), least(question, {"s": unary()})],
                          [0, 1, 1])

    def test_arguments_stay(self):
        tables = {"s": unary(1, 4), "r": unary(1, 2)}
        elder = copy.deepcopy(list(tables.items()))
        least(ONE, tables)
        least_paper(ONE, tables)
        least_below(ONE, tables, "a", ())
        self.assertEqual(list(tables.items()), elder)


if __name__ == "__main__":
    unittest.main()
