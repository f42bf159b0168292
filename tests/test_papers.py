"""[25], [2]: papers, the boxes and parts in them, and the shape they tell."""

import unittest

from enoughlooks.judge import plain_paper
from enoughlooks.least import least_paper
from enoughlooks.papers import boxes_in, parts_of, shape_told, size_of
from plain_papers import drawn_cases

END = ("all", ())
BELOW = (((0, None, 5), (0, 5, 7), (0, 7, None)), ((5, END), (7, END)))
BARE = (((0, None, None),), ())
BARRED = (((3, None, 2), (3, 2, None)), ((2, ("row", 4)),))


def plain_parts(thing):
    """How many LEVELS, gaps and values there are, part by part."""
    many = 0
    for gaps, values in {"all": thing[1], "one": thing[2:]}[thing[0]]:
        many += 1
        for _ in gaps:
            many += 1
        for value, what in values:
            many += 1 + (0 if what[0] == "row" else plain_parts(what))
    return many


class TestPapers(unittest.TestCase):
    def test_boxes_in_order(self):
        level = (((1, None, 1), (0, 1, 4)), ((1, ("all", (BELOW, BARRED))), (3, ("row", 2)), (9, ("one", 1, BARE))))
        below = [("gap", 0, (1,), None, 5), ("gap", 0, (1,), 5, 7), ("gap", 0, (1,), 7, None), ("gap", 3, (1,), None, 2),
                 ("gap", 3, (1,), 2, None), ("row", 4, (1, 2)), ("row", 2, (3,)), ("gap", 0, (9,), None, None)]
        its = [("gap", 1, (), None, 1), ("gap", 0, (), 1, 4), *below]
        self.assertEqual(boxes_in(("all", (level,))), tuple(its))
        self.assertEqual(boxes_in(("one", 3, level)), tuple(its))
        two = [("gap", 0, (), None, None), *its, ("gap", 3, (), None, 2), ("gap", 3, (), 2, None), ("row", 4, (2,))]
        self.assertEqual(boxes_in(("all", (BARE, level, BARRED))), tuple(two))

    def test_sizes(self):
        level = (((1, None, 1), (0, 1, 4)), ((1, ("all", (BELOW, BARRED))), (3, ("row", 2)), (9, ("one", 1, BARE))))
        paper = ("all", (BARE, level))
        self.assertEqual([size_of(END), size_of(("all", (BELOW,))), size_of(("one", 0, BARRED)), size_of(paper)], [0, 3, 3, 11])
        self.assertEqual([parts_of(END), parts_of(("all", (BELOW,))), parts_of(("one", 0, BARRED)), parts_of(("all", (((), ()),)))],
                         [0, 6, 4, 1])
        self.assertEqual(parts_of(paper), 2 + (1 + 2 + 3) + (1 + 3 + 2) + (1 + 2 + 1) + 2)

    def test_no_boxes(self):
        self.assertEqual([boxes_in(END), boxes_in(("all", (((), ((2, END),)),)))], [(), ()])
        self.assertEqual([size_of(("all", (((), ((2, END),)),))), parts_of(("all", (((), ((2, END),)),)))], [0, 2])

    def test_shape_told(self):
        self.assertEqual(shape_told(END), ())
        self.assertEqual(shape_told(("all", (BELOW,))), (((5, ()), (7, ())),))
        self.assertEqual(shape_told(("all", (BELOW, BELOW))), (((5, ()), (7, ())), ((5, ()), (7, ()))))

    def test_what_does_not_tell_answers(self):
        for level in [BARE, BARRED, ((), ((1, ("one", 0, BARE)), (2, ("all", (BARE,))), (3, ("all", (BELOW, BARRED)))))]:
            self.assertIsNone(shape_told(("all", (level,))))
            self.assertIsNone(shape_told(("all", (BELOW, level))))
            self.assertIsNone(shape_told(("all", (level, BELOW))))
            self.assertIsNone(shape_told(("one", 0, level)))
        self.assertIsNone(shape_told(("one", 0, BELOW)))

    def test_values_that_do_not_tell_are_left_out(self):
        level = ((), ((1, ("one", 0, BARE)), (2, ("all", (BELOW,))), (3, ("row", 1)), (4, ("all", (BELOW, BARE))), (5, END)))
        self.assertEqual(shape_told(("all", (level,))), (((2, (((5, ()), (7, ())),)), (5, ())),))

    def test_drawn(self):
        for question, tables in drawn_cases(40, 60):
            for paper in [plain_paper(question, tables), least_paper(question, tables)]:
                boxes = boxes_in(paper)
                self.assertIs(type(boxes), tuple)
                self.assertEqual(size_of(paper), len(boxes))
                self.assertEqual(len(set(boxes)), len(boxes))
                self.assertEqual(parts_of(paper), plain_parts(paper))


if __name__ == "__main__":
    unittest.main()
