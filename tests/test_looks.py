"""[24], [2], [3], [4]: looks, what they tell, and the boxes that come of them."""

import copy
import unittest

from enoughlooks.looks import box_of, is_look, told
from plain_questions import drawn_question, drawn_tables, nested_questions, plain_boxes, plain_holds, plain_is_answer, plain_looks
from plain_questions import plain_points, plain_told
from values import any_values, drawing

QUESTION = (("a", "b"), (("has", "r", ("b", "a")), ("has", "s", ("a",)), ("not", "n", ("b", "a"))), (("a", 0, 3),))
TABLES = {"n": (2, ((0, 4), (7, 1))), "r": (2, ((5, 1), (5, 4), (7, 1), (8, 1))), "s": (1, ((-1,), (1,), (2,)))}


def drawn_cases(seed, count):
    draw = drawing(seed)
    questions = nested_questions() + [drawn_question(draw) for _ in range(count)]
    return [(question, drawn_tables(draw, question)) for question in questions]


class TestIsLook(unittest.TestCase):
    def all_are(self, truth, things):
        for thing in things:
            self.assertIs(is_look(QUESTION, TABLES, thing), truth, repr(thing))

    def test_looks(self):
        self.all_are(True, [(0, (), None), (0, (), 5), (0, (), -10 ** 39), (0, (1,), None), (0, (4,), 5), (0, (1,), 99), (1, (), 7),
                            (2, (1, 7)), (2, (7, 1)), (2, (99, -99))])
        self.assertIs(is_look(QUESTION, {**TABLES, "r": (2, ())}, (0, (), 3)), True)
        self.assertIs(is_look(QUESTION, {**TABLES, "r": (2, ())}, (0, (1,), 3)), False)

    def test_one_thing_otherwise(self):
        self.all_are(False, [
            (-1, (), None), (3, (), None), (False, (), None), ("0", (), None), (0, [], None), (0, None, None), (0, (), "5"),
            (0, (), True),
            (0, (), (5,)), (0, ()), (0,), (), (0, (), 5, 5), [0, (), 5], (0, (5,), None), (0, (2,), 5), (0, (True,), 5),
            (0, [1], 5),
            (0, (1, 5), 5), (0, (1, 5), None), (1, (1,), None), (1, (1,), 5), (2, (), None), (2, (1, 7), None), (2, (1,)),
            (2, (1, 7, 0)),
            (2, ()), (2, [1, 7]), (2, (True, 7)), (2, (1, "7")), (2, (1, None)), (2, 1, 7), (2,), (True, (), 7), (2, ((1, 7),)),
            ((0,), (), 5),
            (0, 1, 5), (None, (), 5),
        ])

    def test_any_value(self):
        self.all_are(False, any_values())
        for thing in any_values():
            # None is the begin.
            self.all_are(thing is None or thing in (-1, 10 ** 39) and type(thing) is int, [(0, (), thing)])
            self.all_are(type(thing) is tuple and thing == (), [(0, thing, 5)])
            self.all_are(False, [(2, thing), (thing, (), 5), (thing, (1, 7)), (2, (1, thing, 7))])

    def test_drawn(self):
        for question, tables in drawn_cases(24, 60):
            for look in plain_looks(question, tables):
                self.assertIs(is_look(question, tables, look), True)


class TestTold(unittest.TestCase):
    def all_tell(self, pairs):
        for look, its in pairs:
            self.assertEqual(told(QUESTION, TABLES, look), its, look)

    def test_at_the_begin(self):
        self.all_tell([((0, (), None), ("gap", None, 1)), ((0, (4,), None), ("gap", None, 5)), ((1, (), None), ("gap", None, -1))])
        empty = {**TABLES, "r": (2, ())}
        self.assertEqual([told(QUESTION, empty, (0, (), x)) for x in (None, 0)], [("gap", None, None)] * 2)

    def test_beside_and_at_values(self):
        self.all_tell([((0, (), 0), ("gap", None, 1)), ((0, (), 1), ("there",)), ((0, (), 2), ("gap", 1, 4)),
                       ((0, (), 3), ("gap", 1, 4)),
                       ((0, (), 4), ("there",)), ((0, (), 5), ("gap", 4, None)), ((0, (1,), 6), ("gap", 5, 7)),
                       ((0, (1,), 7), ("there",)),
                       ((0, (1,), 8), ("there",)), ((0, (1,), 9), ("gap", 8, None)), ((0, (4,), 4), ("gap", None, 5)),
                       ((1, (), 10 ** 39), ("gap", 2, None)), ((1, (), 0), ("gap", -1, 1))])

    def test_at_not_atoms(self):
        self.all_tell([((2, (1, 7)), ("there",)), ((2, (4, 0)), ("there",)), ((2, (7, 1)), ("away",)), ((2, (1, 6)), ("away",))])

    def test_drawn(self):
        kinds = []
        for question, tables in drawn_cases(25, 60):
            for look in plain_looks(question, tables):
                its = told(question, tables, look)
                self.assertEqual(its, plain_told(question, tables, look))
                kinds.append(its[0])
                if len(look) == 2:
                    other = look[:1] + (look[1][:-1] + (99,),)
                    self.assertEqual(told(question, tables, other), ("away",))
        self.assertEqual(set(kinds), {"there", "gap"})

    def test_arguments_stay(self):
        tables = {name: TABLES[name] for name in ("s", "n", "r")}
        elder = copy.deepcopy(list(tables.items()))
        for look in plain_looks(QUESTION, tables):
            is_look(QUESTION, tables, look)
            told(QUESTION, tables, look)
        self.assertEqual(list(tables.items()), elder)


class TestBoxOf(unittest.TestCase):
    def test_boxes(self):
        self.assertEqual(box_of((0, (), None), ("gap", None, 1)), ("gap", 0, (), None, 1))
        self.assertEqual(box_of((0, (4, 2), 7), ("gap", 5, None)), ("gap", 0, (4, 2), 5, None))
        self.assertEqual(box_of((1, (), 7), ("gap", None, None)), ("gap", 1, (), None, None))
        self.assertEqual(box_of((2, (1, 7)), ("there",)), ("row", 2, (1, 7)))
        self.assertIsNone(box_of((2, (1, 7)), ("away",)))
        self.assertIsNone(box_of((0, (1,), 7), ("there",)))

    def test_true_boxes_hold_just_what_is_no_answer(self):
        for question, tables in drawn_cases(26, 25):
            boxes = set()
            for look in plain_looks(question, tables):
                boxes.add(box_of(look, told(question, tables, look)))
            boxes.discard(None)
            self.assertEqual(boxes, set(plain_boxes(question, tables)))
            for point in plain_points(question, tables)[::11]:
                held = any(plain_holds(question, box, point) for box in boxes)
                self.assertEqual(held, not plain_is_answer(question, tables, point))


if __name__ == "__main__":
    unittest.main()
