"""[24], [2], [3], [4], [5]: true boxes, what they hold, covers, and what boxes leave."""

import copy
import unittest

from enoughlooks.boxes import box_at, holds, is_cover, is_true_box, left_by, true_boxes
from enoughlooks.looks import box_of, told
from plain_papers import drawn_cases, exchanged, parts_within, plain_is_cover, plain_left
from plain_questions import drawn_question, drawn_tables, plain_answers, plain_boxes, plain_holds, plain_is_answer, plain_looks
from plain_questions import plain_places, plain_points, plain_shape
from values import any_values, drawing

QUESTION = (("a", "b"), (("has", "r", ("b", "a")), ("has", "s", ("a",)), ("not", "n", ("b", "a"))), ())
TABLES = {"n": (2, ((5, 4), (7, 1))), "r": (2, ((5, 1), (5, 4), (7, 1), (8, 1))), "s": (1, ((1,), (2,), (4,)))}
BOXES = [
    ("gap", 0, (), None, 1), ("gap", 0, (), 1, 4), ("gap", 0, (), 4, None), ("gap", 0, (1,), None, 5), ("gap", 0, (1,), 5, 7),
    ("gap", 0, (1,), 8, None), ("gap", 0, (4,), None, 5), ("gap", 0, (4,), 5, None), ("gap", 1, (), None, 1), ("gap", 1, (), 2, 4),
    ("gap", 1, (), 4, None), ("row", 2, (1, 7)), ("row", 2, (4, 5)),
]


def column_of(low, high):
    """A question of one column with this range."""
    return ("a",), (("has", "r", ("a",)),), (("a", low, high),)


def beside(*bounds):
    """A question of columns beside each other, with these ranges."""
    columns = tuple("abcdefgh"[:len(bounds)])
    atoms = tuple(("has", f"t{column}", (column,)) for column in columns)
    return columns, atoms, tuple((column, *each) for column, each in zip(columns, bounds))


def below(*bounds):
    """A question of columns each above the next, with these ranges."""
    columns = tuple("abcdefgh"[:len(bounds)])
    return columns, (("has", "r", columns),), tuple((column, *each) for column, each in zip(columns, bounds))


class TestTrueBoxes(unittest.TestCase):
    def test_in_order(self):
        self.assertEqual(true_boxes(QUESTION, TABLES), BOXES)

    def test_no_rows(self):
        empty = {"n": (2, ()), "r": (2, ()), "s": (1, ())}
        self.assertEqual(true_boxes(QUESTION, empty), [("gap", 0, (), None, None), ("gap", 1, (), None, None)])

    def test_values_side_by_side_have_no_gap(self):
        question = (("a",), (("has", "r", ("a",)),), ())
        self.assertEqual(true_boxes(question, {"r": (1, ((-1,), (0,), (1,), (3,)))}),
                         [("gap", 0, (), None, -1), ("gap", 0, (), 1, 3), ("gap", 0, (), 3, None)])

    def test_just_what_looks_tell(self):
        for question, tables in drawn_cases(30, 60):
            boxes = true_boxes(question, tables)
            self.assertIs(type(boxes), list)
            self.assertEqual(boxes, plain_boxes(question, tables))
            for look in plain_looks(question, tables):
                box = box_of(look, told(question, tables, look))
                self.assertTrue(box is None or box in boxes)

    def test_new_each_time(self):
        true_boxes(QUESTION, TABLES).clear()
        self.assertEqual(true_boxes(QUESTION, TABLES), BOXES)


class TestIsTrueBox(unittest.TestCase):
    def test_true_boxes(self):
        for box in BOXES:
            self.assertIs(is_true_box(QUESTION, TABLES, box), True, box)

    def test_one_thing_otherwise(self):
        for thing in [
            ("gap", 0, (), None, 2), ("gap", 0, (), None, None), ("gap", 0, (), 1, None), ("gap", 0, (), 1, 3),
            ("gap", 0, (), 0, 4),
            ("gap", 0, (), 4, 1), ("gap", 0, (1,), 7, 8), ("gap", 0, (2,), None, None), ("gap", 0, (1, 5), None, None),
            ("gap", 1, (), 1, 4),
            ("gap", 1, (), 1, 2), ("gap", 2, (), None, 1), ("gap", 3, (), None, 1), ("gap", -1, (), None, 1),
            ("gap", -3, (), None, 1),
            ("gap", False, (), None, 1), ("gap", 0, (), None, True), ("gap", 0, (), True, 4), ("gap", 0, (True,), None, 5),
            ("gap", 0, [], None, 1), ("gap", 0, [1], None, 5), ["gap", 0, (), None, 1], ("row", 0, (), None, 1),
            ("gap", 0, (), None),
            ("gap", 0, (), None, 1, 1), ("row", 2, (1, 6)), ("row", 2, (7, 1)), ("row", 2, [1, 7]), ("row", 2, (True, 7)),
            ("row", 0, (1, 5)),
            ("row", 1, (1,)), ("row", 2, (1,)), ("row", 2, ()), ("gap", 2, (1, 7)), ("row", 3, (1, 7)), ("row", -1, (1, 7)),
            ("row", 2, (1, 7), None), ["row", 2, (1, 7)], ("gap", "0", (), None, 1), ("gap", 0, None, None, 1),
            ("gap", 0, (), "1", 4),
            ("Gap", 0, (), None, 1), (None, 0, (), None, 1), ("row", (2,), (1, 7)), (0, (), None, 1),
        ]:
            self.assertIs(is_true_box(QUESTION, TABLES, thing), False, repr(thing))

    def test_any_value(self):
        for thing in any_values():
            self.assertIs(is_true_box(QUESTION, TABLES, thing), False)
            for box in [("gap", thing, (), None, 1), (thing, 0, (), None, 1), ("gap", 0, (), thing, 4), ("gap", 0, (), 1, thing),
                        ("gap", 0, (thing,), None, 5), ("row", 2, thing), ("row", thing, (1, 7)), ("row", 2, (1, thing))]:
                self.assertIs(is_true_box(QUESTION, TABLES, box), False, repr(box))

    def test_parts_exchanged(self):
        draw = drawing(31)
        truths = []
        for question, tables in drawn_cases(31, 30):
            boxes = plain_boxes(question, tables)
            known = {repr(box) for box in boxes}
            others = parts_within(tuple(boxes)) + any_values()[:14]
            for box in boxes * 4:
                thing = exchanged(draw, box, others)
                self.assertIs(is_true_box(question, tables, thing), repr(thing) in known, repr(thing))
                truths.append(repr(thing) in known)
        self.assertGreater(truths.count(True), 50)
        self.assertGreater(truths.count(False), 500)


class TestHolds(unittest.TestCase):
    def test_bounds_are_outside(self):
        box = ("gap", 0, (1,), 5, 7)
        self.assertEqual([holds(QUESTION, box, (1, b)) for b in (4, 5, 6, 7, 8)], [False, False, True, False, False])
        self.assertIs(holds(QUESTION, box, (2, 6)), False)
        self.assertEqual([holds(QUESTION, ("gap", 1, (), None, 4), (a, 0)) for a in (-10 ** 30, 3, 4)], [True, True, False])
        self.assertEqual([holds(QUESTION, ("gap", 1, (), 4, None), (a, 0)) for a in (10 ** 30, 5, 4)], [True, True, False])
        self.assertIs(holds(QUESTION, ("gap", 0, (), None, None), (7, 7)), True)

    def test_rows(self):
        box = ("row", 2, (1, 7))
        self.assertEqual([holds(QUESTION, box, point) for point in [(1, 7), (7, 1), (1, 6), (1, 8), (0, 7), (2, 7)]],
                          [True] + [False] * 5)
        turned = (("b", "a"),) + QUESTION[1:]
        self.assertEqual([holds(turned, box, point) for point in [(7, 1), (1, 7)]], [True, False])

    def test_drawn(self):
        draw = drawing(32)
        for question, tables in drawn_cases(32, 40):
            points = plain_points(question, tables)
            for box in plain_boxes(question, tables):
                for point in draw.sample(points, min(len(points), 20)):
                    self.assertIs(holds(question, box, point), plain_holds(question, box, point))

    def test_box_at(self):
        draw = drawing(33)
        for question, tables in drawn_cases(33, 40):
            boxes = plain_boxes(question, tables)
            points = plain_points(question, tables)
            for point in draw.sample(points, min(len(points), 60)) + plain_answers(question, tables)[:10]:
                first = next((box for box in boxes if plain_holds(question, box, point)), None)
                self.assertEqual(box_at(question, tables, point), first)
                # No true box holds an answer, and some one each other point.
                self.assertEqual(first is None, plain_is_answer(question, tables, point))

    def test_box_at_takes_the_first_atom(self):
        self.assertEqual(box_at(QUESTION, TABLES, (3, 3)), ("gap", 0, (), 1, 4))
        self.assertEqual(box_at(QUESTION, TABLES, (1, 7)), ("row", 2, (1, 7)))
        self.assertIsNone(box_at(QUESTION, TABLES, (1, 5)))
        twice = (("a",), (("not", "m", ("a",)), ("has", "r", ("a",)), ("not", "n", ("a",))), ())
        tables = {"m": (1, ((2,), (3,))), "n": (1, ((1,), (2,))), "r": (1, ((1,), (2,)))}
        self.assertEqual([box_at(twice, tables, (a,)) for a in (1, 2, 3)], [("row", 2, (1,)), ("row", 0, (2,)), ("row", 0, (3,))])


class TestLeftBy(unittest.TestCase):
    def test_no_boxes(self):
        for bounds in [(None, None), (0, None), (None, 0)]:
            self.assertEqual(left_by(column_of(*bounds), []), ("many",))
        self.assertEqual(left_by(QUESTION, ()), ("many",))
        self.assertEqual(left_by(column_of(3, 5), []), ("shape", (((3, ()), (4, ()), (5, ())),)))
        self.assertEqual(left_by(below((1, 1), (-2, -1)), ()), ("shape", (((1, (((-2, ()), (-1, ())),)),),)))
        self.assertEqual(left_by(beside((1, 1), (0, 1)), ()), ("shape", (((1, ()),), ((0, ()), (1, ())))))

    def test_all_some_and_nothing(self):
        question = column_of(0, 9)
        self.assertEqual(left_by(question, [("gap", 0, (), 12, None)])[1], left_by(question, [])[1])
        self.assertEqual(left_by(question, [("gap", 0, (), 1, 8)]), ("shape", (((0, ()), (1, ()), (8, ()), (9, ())),)))
        self.assertEqual(left_by(question, [("gap", 0, (), None, 6), ("gap", 0, (), 4, 9)]), ("shape", (((9, ()),),)))
        self.assertEqual(left_by(question, [("gap", 0, (), 4, None), ("gap", 0, (), None, 5)]), ("shape", None))
        self.assertEqual(left_by(question, [("gap", 0, (), 4, None), ("gap", 0, (), None, 4)]), ("shape", (((4, ()),),)))
        self.assertEqual(left_by(question, [("gap", 0, (), None, 10)]), ("shape", None))

    def test_endlessly_many(self):
        question = column_of(None, None)
        self.assertEqual(left_by(question, [("gap", 0, (), 0, None)]), ("many",))
        self.assertEqual(left_by(question, [("gap", 0, (), None, 0)]), ("many",))
        self.assertEqual(left_by(question, [("gap", 0, (), None, 0), ("gap", 0, (), 2, None)]),
                                 ("shape", (((0, ()), (1, ()), (2, ())),)))
        self.assertEqual(left_by(column_of(-10 ** 9, 10 ** 9), [("gap", 0, (), 0, 10)]), ("many",))
        huge = column_of(-10 ** 30, 10 ** 30)
        self.assertEqual(left_by(huge, [("gap", 0, (), None, 10 ** 29), ("gap", 0, (), 10 ** 29, None)]),
                                 ("shape", (((10 ** 29, ()),),)))

    def test_one_that_leaves_nothing_is_enough(self):
        question = beside((None, None), (None, None), (0, 3))
        self.assertEqual(left_by(question, [("gap", 2, (), None, None)]), ("shape", None))
        self.assertEqual(left_by(question, [("gap", 0, (), None, None)]), ("shape", None))
        self.assertEqual(left_by(question, [("gap", 2, (), 3, None)]), ("many",))
        # Behind the one value of a that is left c leaves nothing, so b may leave what it will.
        forked = (("a", "b", "c"), (("has", "r", ("a", "b")), ("has", "s", ("a", "c"))), ())
        ends = [("gap", 0, (), None, 5), ("gap", 1, (), 6, None)]
        gaps = [("gap", 1, (5,), None, None), ("gap", 0, (6,), None, None)]
        self.assertEqual(left_by(forked, ends + gaps), ("shape", None))
        self.assertEqual(left_by(forked, ends + gaps[:1]), ("many",))
        self.assertEqual(left_by(forked, gaps), ("many",))
        some = [("gap", 0, (6,), None, 1), ("gap", 0, (6,), 2, None), ("gap", 1, (6,), None, 3), ("gap", 1, (6,), 3, None)]
        self.assertEqual(left_by(forked, ends + gaps[:1] + some), ("shape", (((6, (((1, ()), (2, ())), ((3, ()),))),),)))

    def test_rows(self):
        question = (("a", "b"), (("has", "r", ("a", "b")), ("not", "n", ("b", "a")), ("not", "m", ("a",))),
                     (("a", 1, 2), ("b", 1, 2)))
        self.assertEqual(left_by(question, [("row", 1, (1, 2)), ("row", 2, (2,))]), ("shape", (((1, (((1, ()),),)),),)))
        self.assertEqual(left_by(question, [("row", 1, (1, 2)), ("row", 1, (1, 1)), ("row", 2, (2,))]), ("shape", None))
        self.assertEqual(left_by(question, [("row", 1, (1, 1)), ("row", 1, (2, 2)), ("row", 1, (3, 1))]),
                         ("shape", (((1, (((2, ()),),)), (2, (((1, ()),),))),)))

    def test_just_at_the_most_places(self):
        self.assertEqual(len(left_by(column_of(1, 2000), [])[1][0]), 2000)
        self.assertEqual(left_by(column_of(1, 2001), []), ("many",))
        self.assertEqual(len(left_by(column_of(1, 2001), [("gap", 0, (), 7, 9)])[1][0]), 2000)
        self.assertEqual(len(left_by(beside((1, 1000), (1, 1000)), [])[1][0]), 1000)
        self.assertEqual(left_by(beside((1, 1000), (1, 1001)), []), ("many",))
        self.assertEqual(plain_places(left_by(below((1, 40), (1, 49)), [])[1]), 2000)
        self.assertEqual(left_by(below((1, 3), (1, 666)), []), ("many",))
        self.assertEqual(left_by(below((1, 2001), (1, 1)), [("gap", 0, (), 1, None)])[1], (((1, (((1, ()),),)),),))
        self.assertEqual(left_by(below((1, 1001), (1, 1)), []), ("many",))
        self.assertEqual(plain_places(left_by(below((1, 1001), (1, 1)), [("gap", 0, (7,), None, 2)])[1]), 2000)
        self.assertEqual(plain_places(left_by(below((1, 3), (1, 666)), [("gap", 0, (2,), 3, 5)])[1]), 2000)
        self.assertEqual(left_by(below((1, 2), (1, 1999)), [("gap", 0, (2,), 1, None)])[0], "many")
        self.assertEqual(plain_places(left_by(below((1, 2), (1, 1997)), [("gap", 0, (2,), 1, None)])[1]), 2000)

    def test_far_too_many(self):
        self.assertEqual(left_by(below((0, 10 ** 12), (1, 1)), []), ("many",))
        self.assertEqual(left_by(below((1, 1), (0, 10 ** 12)), []), ("many",))
        self.assertEqual(left_by(below((0, 10 ** 12), (1, 3)), [("gap", 0, (7,), 0, None)]), ("many",))
        self.assertEqual(left_by(beside((0, 10 ** 12), (1, 3)), [("gap", 1, (), 0, None)]), ("shape", None))

    def test_many_below_what_is_barred(self):
        question = below((None, 5), (None, None))
        self.assertEqual(left_by(question, [("gap", 0, (), None, 5), ("gap", 0, (5,), None, None)]), ("shape", None))
        self.assertEqual(left_by(question, [("gap", 0, (), None, 5), ("gap", 0, (5,), 3, None)]), ("many",))
        self.assertEqual(left_by(question, [("gap", 0, (), None, 9), ("gap", 0, (5,), 3, None)]), ("shape", None))

    def test_drawn_boxes_of_several_tables(self):
        draw = drawing(34)
        kinds = []
        for _ in range(250):
            question = drawn_question(draw, 3)
            most = draw.choice([1, 1, 0.95, 0.8])
            found = {box: True for box in true_boxes(question, drawn_tables(draw, question, 9)) if draw.random() < most}
            others = true_boxes(question, drawn_tables(draw, question, 4))
            found.update(dict.fromkeys(draw.sample(others, draw.randrange(min(3, len(others) + 1)))))
            boxes = draw.sample(list(found), len(found))
            expected = plain_left(question, boxes)
            self.assertEqual(left_by(question, boxes), expected)
            self.assertEqual(left_by(question, tuple(boxes[::-1])), expected)
            kinds.append("none" if expected[-1] is None else expected[0])
        self.assertTrue(all(kinds.count(kind) >= 20 for kind in ("none", "many", "shape")), kinds)

    def test_all_true_boxes_leave_the_answers(self):
        for question, tables in drawn_cases(35, 60):
            expected = plain_shape(question, plain_answers(question, tables))
            self.assertEqual(left_by(question, true_boxes(question, tables)), ("shape", expected))

    def test_arguments_stay(self):
        boxes = list(BOXES)
        tables = {name: TABLES[name] for name in ("s", "n", "r")}
        elder = copy.deepcopy(list(tables.items()))
        left_by(QUESTION, boxes)
        true_boxes(QUESTION, tables)
        is_cover(QUESTION, tables, tuple(boxes))
        box_at(QUESTION, tables, (3, 3))
        self.assertEqual(boxes, BOXES)
        self.assertEqual(list(tables.items()), elder)


class TestIsCover(unittest.TestCase):
    def test_covers(self):
        self.assertIs(is_cover(QUESTION, TABLES, tuple(BOXES)), True)
        self.assertIs(is_cover(QUESTION, TABLES, tuple(reversed(BOXES))), True)
        self.assertIs(is_cover(QUESTION, TABLES, ()), False)
        one = column_of(2, 2)
        self.assertIs(is_cover(one, {"r": (1, ((2,),))}, ()), True)
        self.assertIs(is_cover(one, {"r": (1, ())}, ()), False)
        self.assertIs(is_cover(one, {"r": (1, ())}, (("gap", 0, (), None, None),)), True)

    def test_one_box_less(self):
        # Each of the two needs some box that the other one has not.
        needless = [BOXES[0], BOXES[2], BOXES[8], BOXES[9], BOXES[10]]
        for box in BOXES:
            less = tuple(other for other in BOXES if other != box)
            self.assertIs(is_cover(QUESTION, TABLES, less), box in needless, box)

    def test_one_thing_otherwise(self):
        cover = tuple(BOXES)
        for thing in [list(cover), cover + cover[:1], cover[1:] + cover[1:2], cover + (None,), cover + (("gap", 0, (), 1, 3),),
                      cover[1:] + (list(cover[0]),), cover + (("row", 2, (9, 9)),), (cover,), cover[0], cover + ((),),
                      cover + (("gap", False, (), None, 1),), cover[1:] + (("gap", False, (), None, 1),),
                      cover[1:] + (("gap", 0, (), None, True),), cover[:8] + (("gap", True, (), None, 1),) + cover[9:],
                      cover[:3] + (("gap", 0, (True,), None, 5),) + cover[4:], cover[:-2] + (("row", 2, (True, 7)),) + cover[-1:],
                      cover[:-1] + (("row", 2, [4, 5]),), dict.fromkeys(cover), cover + ({},)]:
            self.assertIs(is_cover(QUESTION, TABLES, thing), False, repr(thing))

    def test_any_value(self):
        for thing in any_values():
            self.assertIs(is_cover(QUESTION, TABLES, thing), False)
            for box in [thing, (thing, 0, (), None, 1), ("gap", thing, (), None, 1), ("gap", 0, thing, None, 1), (thing, 2, (1, 7)),
                        ("row", thing, (1, 7)), ("row", 2, thing), ("gap", 0, (), thing, 4), ("gap", 0, (), 1, thing)]:
                self.assertIs(is_cover(QUESTION, TABLES, tuple(BOXES) + (box,)), False)
        one, tables = column_of(2, 2), {"r": (1, ((2,),))}
        for thing in any_values():
            self.assertIs(is_cover(one, tables, thing), type(thing) is tuple and thing == ())

    def test_truths_are_no_indexes(self):
        question = (("a",), (("has", "r", ("a",)), ("not", "n", ("a",))), (("a", 1, 1),))
        tables = {"r": (1, ((1,),)), "n": (1, ((1,),))}
        self.assertEqual([is_cover(question, tables, (("row", atom, (1,)),)) for atom in (1, True)], [True, False])
        self.assertEqual([is_true_box(question, tables, ("row", atom, (1,))) for atom in (1, True)], [True, False])

    def test_ranges_let_less(self):
        tables = {"r": (1, ((2,), (5,)))}
        gaps = [("gap", 0, (), None, 2), ("gap", 0, (), 2, 5), ("gap", 0, (), 5, None)]
        for low, high, needed in [(None, None, [0, 1, 2]), (2, 5, [1]), (5, 5, []), (3, 4, [1]), (None, 2, [0]), (4, None, [1, 2])]:
            for gap in gaps:
                less = tuple(other for other in gaps if other != gap)
                self.assertIs(is_cover(column_of(low, high), tables, less), gaps.index(gap) not in needed)

    def test_drawn(self):
        draw = drawing(36)
        truths = []
        for question, tables in drawn_cases(36, 50, 3, 5):
            boxes = plain_boxes(question, tables)
            for _ in range(4):
                some = tuple(box for box in draw.sample(boxes, len(boxes)) if draw.random() < 0.9)
                expected = plain_is_cover(question, tables, some)
                self.assertIs(is_cover(question, tables, some), expected)
                truths.append(expected)
        self.assertGreater(min(truths.count(True), truths.count(False)), 40)

    def test_more_places_than_left_by_tells(self):
        rows = tuple((value,) for value in range(1500))
        question, tables = beside((None, None), (None, None)), {"ta": (1, rows), "tb": (1, rows)}
        boxes = tuple(true_boxes(question, tables))
        self.assertEqual(left_by(question, boxes), ("many",))
        self.assertIs(is_cover(question, tables, boxes), True)
        self.assertIs(is_cover(question, tables, boxes[:-1]), False)


if __name__ == "__main__":
    unittest.main()
