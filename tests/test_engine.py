"""[30], [31], [9], [3]: runs on tables, and the bound of their looks."""

import copy
import unittest

from enoughlooks.engine import is_bounded, measured, run, run_knowing
from enoughlooks.looks import is_look, told
from plain_engine import plain_run
from plain_papers import drawn_cases, plain_least
from plain_questions import plain_answers, plain_looks, plain_places, plain_shape, plain_told
from values import drawing

QUESTION = (("a", "b"), (("has", "r", ("a",)), ("has", "s", ("a", "b")), ("not", "u", ("a", "b"))), ())
TABLES = {"r": (1, ((1,), (3,), (5,))), "s": (2, ((1, 4), (3, 2), (3, 7), (9, 1))), "u": (2, ((3, 2),))}


def pairs_of(question, tables, looks):
    return [(look, plain_told(question, tables, look)) for look in looks]


class TestRun(unittest.TestCase):
    def test_drawn(self):
        for question, tables in drawn_cases(30, 150):
            held = copy.deepcopy(tables)
            shape, paper, looks = run(question, tables)
            self.assertEqual((shape, paper, looks), plain_run(question, tables))
            self.assertEqual(len(looks), len(set(looks)))
            self.assertTrue(all(is_look(question, tables, look) for look in looks))
            self.assertEqual(shape, plain_shape(question, plain_answers(question, tables)))
            self.assertEqual(tables, held)
            self.assertEqual(list(tables), list(held))

    def test_what_is_returned_is_new(self):
        first = run(QUESTION, TABLES)
        first[2].clear()
        self.assertEqual(len(run(QUESTION, TABLES)[2]), 23)

    def test_large_tables(self):
        rows = tuple((value, 3 * value) for value in range(0, 400, 2))
        question = (("a", "b"), (("has", "r", ("a", "b")), ("has", "s", ("a", "b"))), ())
        shape, paper, looks = run(question, {"r": (2, rows), "s": (2, rows)})
        self.assertEqual(shape, (tuple((a, (((b, ()),),)) for a, b in rows),))
        self.assertEqual(len(looks), 2 * (1 + 2 * 200) + 200 * 2 * 3)


class TestRunKnowing(unittest.TestCase):
    def test_all_some_and_none(self):
        draw = drawing(300)
        for question, tables in drawn_cases(301, 60):
            shape, paper, looks = run(question, tables)
            self.assertEqual(run_knowing(question, tables, []), (shape, paper, looks))
            self.assertEqual(run_knowing(question, tables, tuple(pairs_of(question, tables, looks))), (shape, paper, []))
            some = draw.sample(looks, len(looks) // 2)
            pairs = pairs_of(question, tables, some)
            held = copy.deepcopy(pairs)
            self.assertEqual(run_knowing(question, tables, pairs), (shape, paper, [look for look in looks if look not in some]))
            self.assertEqual(pairs, held)

    def test_pairs_that_the_run_does_not_do(self):
        for question, tables in drawn_cases(302, 40):
            shape, paper, looks = run(question, tables)
            others = [look for look in plain_looks(question, tables) if look not in looks]
            self.assertEqual(run_knowing(question, tables, pairs_of(question, tables, others)), (shape, paper, looks))
            pairs = pairs_of(question, tables, others[::2] + looks[::3] + others[1::2])
            self.assertEqual(run_knowing(question, tables, pairs)[2], [look for look in looks if look not in looks[::3]])

    def test_the_same_pair_twice(self):
        pairs = [((0, (), None), ("gap", None, 1))] * 2
        self.assertEqual(run_knowing(QUESTION, TABLES, pairs)[2], run(QUESTION, TABLES)[2][1:])


class TestMeasured(unittest.TestCase):
    def test_by_hand(self):
        one = (("a",), (("has", "r", ("a",)),), ())
        self.assertEqual(measured(one, {"r": (1, ((2,),))}), (2, 1, 3, 3))
        self.assertEqual(measured(one, {"r": (1, ())}), (1, 0, 1, 1))
        self.assertEqual(measured((("a",), one[1], (("a", 2, 2),)), {"r": (1, ((2,),))}), (0, 1, 1, 1))
        self.assertEqual(measured(QUESTION, TABLES), (10, 4, 23, 56))

    def test_drawn(self):
        for question, tables in drawn_cases(31, 60, most_columns=3, most_rows=4):
            fewest, places, looks, most = measured(question, tables)
            shape, paper, done = plain_run(question, tables)
            self.assertEqual((fewest, places, looks), (plain_least(question, tables), plain_places(shape), len(done)))
            self.assertEqual(most % (fewest + places) if fewest + places else most, 0)

    def test_bounded_for_all_tables(self):
        for question, tables in drawn_cases(310, 250):
            fewest, places, looks, most = measured(question, tables)
            self.assertTrue(fewest <= looks <= most, (question, tables))
            self.assertIs(is_bounded(question, tables), True)

    def test_the_bound_is_met(self):
        # Of one column and one atom each integer that is looked at tells a gap, or a place.
        for many in range(5):
            fewest, places, looks, most = measured((("a",), (("has", "r", ("a",)),), ()), {"r": (1, tuple((2 * x,) for x in range(many)))})
            self.assertEqual((looks, fewest + places), (most, most))

    def test_looks_tell_what_told_tells(self):
        for look in run(QUESTION, TABLES)[2]:
            self.assertEqual(told(QUESTION, TABLES, look), plain_told(QUESTION, TABLES, look))


if __name__ == "__main__":
    unittest.main()
