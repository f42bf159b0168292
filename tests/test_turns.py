"""[29], [5], [6], [2], [3]: the engine as a reader, look by look."""

import copy
import unittest

from enoughlooks.boxes import is_cover
from enoughlooks.judge import is_paper
from enoughlooks.papers import boxes_in, shape_told
from enoughlooks.turns import begin, behind, result, wanted
from plain_engine import plain_run
from plain_papers import drawn_cases
from plain_questions import nested_questions, plain_answers, plain_shape, plain_told


def unary(*values):
    return 1, tuple((value,) for value in values)


def led(question, tables):
    """All STATES of a run, and its LOOKS."""
    states, looks = [begin(question)], []
    while True:
        look = wanted(question, states[-1])
        if look is None:
            return states, looks
        looks.append(look)
        states.append(behind(question, states[-1], plain_told(question, tables, look)))


class TestLooks(unittest.TestCase):
    def check(self, question, tables, looks, shape, paper):
        states, found = led(question, tables)
        self.assertEqual(found, looks)
        self.assertEqual(result(question, states[-1]), (shape, paper))

    def test_one_column(self):
        question = (("a",), (("has", "r", ("a",)),), ())
        self.check(question, {"r": unary(2)}, [(0, (), None), (0, (), 2), (0, (), 3)], (((2, ()),),),
                   ("all", ((((0, None, 2), (0, 2, None)), ((2, ("all", ())),)),)))
        self.check(question, {"r": unary()}, [(0, (), None)], None, ("one", 0, (((0, None, None),), ())))

    def test_the_gap_with_the_greatest_high(self):
        question = (("a",), (("has", "r", ("a",)), ("has", "s", ("a",)), ("has", "t", ("a",))), ())
        self.check(question, {"r": unary(1, 6), "s": unary(4, 6), "t": unary(4, 5)},
                   [(atom, (), x) for x in (None, 4, 6) for atom in (0, 1, 2)], None,
                   ("one", 0, (((1, None, 4), (0, 1, 6), (2, 5, None)), ())))
        # No high is the greatest; of several it is the first atom's.
        self.check(question, {"r": unary(9), "s": unary(), "t": unary()}, [(atom, (), None) for atom in (0, 1, 2)], None,
                   ("one", 0, (((1, None, None),), ())))

    def test_ranges(self):
        atoms = (("has", "r", ("a",)), ("has", "s", ("a",)))
        tables = {"r": unary(1, 2, 7), "s": unary(1, 2, 7)}
        one = (("a",), atoms, (("a", 2, 2),))
        self.check(one, tables, [(0, (), 2), (1, (), 2)], (((2, ()),),), ("all", (((), ((2, ("all", ())),)),)))
        no_low = (("a",), atoms, (("a", None, 1),))
        self.check(no_low, tables, [(0, (), None), (1, (), None), (0, (), 1), (1, (), 1)], (((1, ()),),),
                   ("all", ((((0, None, 1),), ((1, ("all", ())),)),)))
        no_high = (("a",), atoms, (("a", 3, None),))
        self.check(no_high, tables, [(atom, (), x) for x in (3, 7, 8) for atom in (0, 1)], (((7, ()),),),
                   ("all", ((((0, 2, 7), (0, 7, None)), ((7, ("all", ())),)),)))
        above = (("a",), atoms, (("a", 4, 6),))
        self.check(above, tables, [(0, (), 4), (1, (), 4)], None, ("one", 0, (((0, 2, 7),), ())))
        below = (("a",), atoms, (("a", None, 0),))
        self.check(below, tables, [(0, (), None), (1, (), None)], None, ("one", 0, (((0, None, 1),), ())))

    def test_not_atoms(self):
        question = (("a",), (("not", "l", ("a",)), ("has", "r", ("a",)), ("not", "m", ("a",)), ("not", "n", ("a",))), (("a", 1, 3),))
        tables = {"l": unary(), "m": unary(1, 2), "n": unary(2), "r": unary(1, 2, 3)}
        looks = [(1, (), 1), (0, (1,)), (2, (1,)), (1, (), 2), (0, (2,)), (2, (2,)), (1, (), 3), (0, (3,)), (2, (3,)), (3, (3,))]
        self.check(question, tables, looks, (((3, ()),),),
                   ("all", (((), ((1, ("row", 2)), (2, ("row", 2)), (3, ("all", ())))),)))
        tables["m"] = unary(1, 2, 3)
        self.check(question, tables, looks[:-1], None,
                   ("one", 0, ((), ((1, ("row", 2)), (2, ("row", 2)), (3, ("row", 2))))))

    def test_a_not_atom_of_a_way(self):
        question = (("a", "b"), (("has", "r", ("b", "a")), ("not", "n", ("b", "a"))), (("a", 1, 1), ("b", 5, 6)))
        tables = {"n": (2, ((5, 1),)), "r": (2, ((5, 1), (6, 1)))}
        self.check(question, tables, [(0, (), 1), (0, (1,), 5), (1, (1, 5)), (0, (1,), 6), (1, (1, 6))], (((1, (((6, ()),),)),),),
                   ("all", (((), ((1, ("all", (((), ((5, ("row", 1)), (6, ("all", ())))),))),)),)))

    def test_siblings_in_turn(self):
        question = (("a", "b", "c"), (("has", "r", ("a",)), ("has", "s", ("b",)), ("has", "t", ("c",))),
                    (("a", 1, 3), ("b", 1, 1), ("c", 1, 2)))
        tables = {"r": unary(1, 2, 3), "s": unary(1), "t": unary(1, 2)}
        leaf = ("all", ())
        self.check(question, tables, [(0, (), 1), (1, (), 1), (2, (), 1), (0, (), 2), (2, (), 2), (0, (), 3)],
                   (((1, ()), (2, ()), (3, ())), ((1, ()),), ((1, ()), (2, ()))),
                   ("all", (((), ((1, leaf), (2, leaf), (3, leaf))), ((), ((1, leaf),)), ((), ((1, leaf), (2, leaf))))))

    def test_the_first_that_ends_without_answers(self):
        question = (("a", "b"), (("has", "r", ("a",)), ("has", "s", ("b",))), (("a", 1, 3), ("b", 1, 3)))
        empty = ("one", 1, (((1, None, None),), ()))
        self.check(question, {"r": unary(1, 2, 3), "s": unary()}, [(0, (), 1), (1, (), 1)], None, empty)
        # One that has ended with answers does not matter then.
        self.check((question[0], question[1], (("a", 1, 1), ("b", 1, 2))), {"r": unary(1), "s": unary(1, 2)},
                   [(0, (), 1), (1, (), 1), (1, (), 2)], (((1, ()),), ((1, ()), (2, ()))),
                   ("all", (((), ((1, ("all", ())),)), ((), ((1, ("all", ())), (2, ("all", ())))))))
        both = {"r": unary(1), "s": unary()}
        self.check((question[0], question[1], ()), both, [(0, (), None), (1, (), None)], None, empty)
        neither = {"r": unary(), "s": unary()}
        self.check((question[0], question[1], ()), neither, [(0, (), None)], None, ("one", 0, (((0, None, None),), ())))

    def test_turns_below_turns(self):
        # The LOOK of a sibling is the next one of all those that come below it.
        atoms = (("has", "r", ("a", "b")), ("has", "s", ("a", "c")), ("has", "t", ("d",)))
        question = (("a", "b", "c", "d"), atoms, (("a", 1, 1), ("b", 1, 2), ("c", 1, 1), ("d", 1, 5)))
        tables = {"r": (2, ((1, 1), (1, 2))), "s": (2, ((1, 1),)), "t": unary(1, 2, 3, 4, 5)}
        states, looks = led(question, tables)
        self.assertEqual(looks, [(0, (), 1), (2, (), 1), (1, (), 1), (2, (), 2), (0, (1,), 1), (2, (), 3), (1, (1,), 1), (2, (), 4),
                                 (0, (1,), 2), (2, (), 5)])

    def test_values_without_answers_below(self):
        question = (("a", "b", "c"), (("has", "r", ("a", "b")), ("has", "s", ("a", "c"))), (("a", 1, 2), ("b", 1, 1), ("c", 1, 1)))
        tables = {"r": (2, ((1, 3), (2, 1))), "s": (2, ((1, 1), (2, 1)))}
        self.check(question, tables, [(0, (), 1), (1, (), 1), (0, (1,), 1), (0, (), 2), (1, (), 2), (0, (2,), 1), (1, (2,), 1)],
                   (((2, (((1, ()),), ((1, ()),))),),),
                   ("all", (((), ((1, ("one", 0, (((0, None, 3),), ()))),
                                  (2, ("all", (((), ((1, ("all", ())),)), ((), ((1, ("all", ())),))))))),)))

    def test_drawn(self):
        for question, tables in drawn_cases(29, 200):
            shape, paper, expected = plain_run(question, tables)
            states, looks = led(question, tables)
            self.assertEqual(looks, expected)
            self.assertEqual(result(question, states[-1]), (shape, paper))


class TestStates(unittest.TestCase):
    def test_states_are_handed_in_again(self):
        for question, tables in drawn_cases(290, 40):
            states, looks = led(question, tables)
            held = copy.deepcopy(states)
            for state, look, later in reversed(list(zip(states, looks, states[1:]))):
                self.assertIs(type(state), tuple)
                self.assertEqual(wanted(question, state), look)
                self.assertEqual(behind(question, state, plain_told(question, tables, look)), later)
                # What else it may be told leads elsewhere, and leaves the state as it was.
                behind(question, state, ("there",) if len(look) == 2 or look[2] is not None else ("gap", None, None))
                self.assertEqual(wanted(question, state), look)
            self.assertEqual(states, held)
            self.assertEqual([wanted(question, state) for state in states], [*looks, None])
            self.assertEqual(result(question, states[-1]), result(question, held[-1]))

    def test_beginnings(self):
        for question in nested_questions():
            self.assertEqual(begin(question), begin(copy.deepcopy(question)))
            self.assertIs(type(begin(question)), tuple)


class TestResults(unittest.TestCase):
    def test_plain_meaning_and_papers(self):
        for question, tables in drawn_cases(2900, 150):
            states, looks = led(question, tables)
            shape, paper = result(question, states[-1])
            self.assertEqual(shape, plain_shape(question, plain_answers(question, tables)))
            self.assertIs(is_paper(question, tables, paper), True)
            self.assertEqual(shape_told(paper), shape)
            self.assertIs(is_cover(question, tables, tuple(dict.fromkeys(boxes_in(paper)))), True)


if __name__ == "__main__":
    unittest.main()
