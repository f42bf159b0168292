"""[38], [8], [2], [3], [4]: other tables on which all news is true, and whose answers are others."""

import copy
import unittest

from enoughlooks.forms import is_tables
from enoughlooks.others import are_other, other_tables
from enoughlooks.readers import enough_looks, is_enough, looks_more, loose_point, news_of
from plain_news import drawn_looks, news_by_hand, plain_holds_on, small_tables
from plain_papers import drawn_cases
from plain_questions import plain_answers
from values import any_values, ascending, drawing

ONE = (("a",), (("has", "r", ("a",)), ("not", "n", ("a",))), ())


def unary(*values):
    return 1, tuple((value,) for value in values)


def plain_are_other(question, tables, news, others):
    """Whether TABLES are other ones as [38] tells."""
    if {name: table[0] for name, table in others.items()} != {name: table[0] for name, table in tables.items()}:
        return False
    return all(plain_holds_on(question, others, pair) for pair in news) and not same_answers(question, tables, others)


def same_answers(question, tables, others):
    return set(plain_answers(question, tables)) == set(plain_answers(question, others))


class TestOtherTables(unittest.TestCase):
    def check(self, question, tables, news):
        held = copy.deepcopy((tables, news))
        others = other_tables(question, tables, news)
        self.assertEqual((tables, news), held)
        self.assertEqual(others is None, is_enough(question, news))
        if others is not None:
            self.assertTrue(is_tables(others))
            self.assertTrue(ascending(others))
            self.assertTrue(plain_are_other(question, tables, news, others), (question, tables, news, others))
            self.assertIs(are_other(question, tables, news, others), True)
            self.assertIs(are_other(question, others, news, tables), True)
        return others

    def test_drawn(self):
        draw = drawing(38)
        for question, tables in drawn_cases(380, 100, most_columns=3, most_rows=5):
            news = news_by_hand(question, tables, drawn_looks(draw, question, tables))
            self.check(question, tables, news)
            self.check(question, tables, ())
            whole = news_of(question, tables, enough_looks(question, tables))
            self.assertIsNone(self.check(question, tables, list(whole)))
            for _ in range(4):
                self.check(question, tables, [pair for pair in whole if draw.random() < 0.85])
            for at in draw.sample(range(len(whole)), min(4, len(whole))):
                self.check(question, tables, whole[:at] + whole[at + 1:])

    def test_just_boxes(self):
        # All boxes are told, but the parts of the ANSWERS are told by ends of gaps alone.
        for question, tables in drawn_cases(381, 60, most_columns=3, most_rows=5):
            looks = [look for look in enough_looks(question, tables) if len(look) == 3 and look[2] is None]
            self.check(question, tables, news_of(question, tables, looks))

    def test_a_point_that_is_no_answer(self):
        tables = {"n": unary(5), "r": unary(2)}
        news = news_of(ONE, tables, [(0, (), None), (0, (), 2), (1, (2,))])
        self.assertGreater(loose_point(ONE, news)[0], 2)
        others = self.check(ONE, tables, news)
        self.assertTrue(len(others["r"][1]) == 2 and len(others["n"][1]) < 2)
        # Those of the "not" atoms go.
        barred = {"n": unary(5), "r": unary(5)}
        news = news_of(ONE, barred, [(0, (), None), (0, (), 6)])
        self.assertEqual(loose_point(ONE, news), (5,))
        self.assertEqual(self.check(ONE, barred, news), {"n": unary(), "r": unary(5)})

    def test_an_answer_of_which_a_not_atom_was_not_asked(self):
        tables = {"n": unary(), "r": unary(5)}
        news = news_of(ONE, tables, [(0, (), None), (0, (), 6)])
        self.assertEqual(self.check(ONE, tables, news), {"n": unary(5), "r": unary(5)})

    def test_an_answer_whose_row_goes(self):
        question = (("a", "b"), (("has", "r", ("a", "b")), ("has", "s", ("a",))), (("a", 1, 1), ("b", 3, 4)))
        tables = {"r": (2, ((1, 3), (1, 7))), "s": unary(1)}
        news = news_of(question, tables, [(1, (), 1), (0, (1,), 4), (0, (1,), 7)])
        self.assertIs(is_enough(question, news), True)
        # Without the gap that ends at it, what stands at 3 was not told.
        news = news_of(question, tables, [(1, (), 1), (0, (), 1), (0, (1,), 7)])
        self.assertEqual(self.check(question, tables, news)["s"], unary(1))
        one = (("a",), (("has", "r", ("a",)),), (("a", 2, 2),))
        held = {"r": unary(1, 2, 9)}
        self.assertEqual(self.check(one, held, news_of(one, held, [(0, (), 1), (0, (), 10)])), {"r": unary(1, 9)})

    def test_an_answer_whose_row_goes_for_another_one(self):
        # The prefix (1,) must be there still: the only row behind it goes, and another one comes.
        question = (("a", "b"), (("has", "r", ("b", "a")),), (("a", 1, 1), ("b", 3, 3)))
        for more in ((), ((5, 6),), ((5, 6), (8, 9))):
            tables = {"r": (2, ((3, 1),) + more)}
            news = news_of(question, tables, [(0, (), 1)])
            self.assertEqual(loose_point(question, news), (1, 3))
            others = self.check(question, tables, news)
            self.assertEqual(len(others["r"][1]), 1 + len(more))
            self.assertEqual([row for row in others["r"][1] if row in tables["r"][1]], list(more))
        # All of them were told by no look at all.
        self.check(question, {"r": (2, ((3, 1),))}, ())
        # A prefix of a look is there, too, if no look told it.
        deep = (("a", "b", "c"), (("has", "r", ("a", "b", "c")),), (("a", 1, 1), ("b", 2, 2), ("c", 3, 3)))
        held = {"r": (3, ((1, 2, 3), (1, 4, 3)))}
        for looks in ([], [(0, (), 1)], [(0, (1,), 3)], [(0, (1,), 5)], [(0, (1,), 2)], [(0, (1, 4), 3)], [(0, (1, 4), None)]):
            others = self.check(deep, held, news_of(deep, held, looks))
            self.assertNotIn((1, 2, 3), others["r"][1])
        self.assertIsNone(self.check(deep, held, news_of(deep, held, [(0, (1, 2), 4)])))

    def test_other_names_stay(self):
        tables = {"zz": unary(7), "n": unary(), "aa": (2, ()), "r": unary(5)}
        others = self.check(ONE, tables, ())
        self.assertEqual((list(others), others["zz"], others["aa"]), (["aa", "n", "r", "zz"], unary(7), (2, ())))

    def test_none_exactly_if_enough(self):
        everything = small_tables(ONE, (1, 2))
        draw = drawing(382)
        for tables in everything:
            for _ in range(10):
                looks = [look for look in [(0, (), None), (0, (), 1), (0, (), 2), (0, (), 3), (1, (1,)), (1, (2,))] if draw.random() < 0.6]
                self.check(ONE, tables, news_of(ONE, tables, looks))

    def test_what_is_returned_is_new(self):
        tables = {"n": unary(), "r": unary(5)}
        other_tables(ONE, tables, ()).clear()
        self.assertEqual(len(other_tables(ONE, tables, ())), 2)


class TestAreOther(unittest.TestCase):
    tables = {"n": unary(7), "r": unary(2, 7), "x": (2, ((1, 1),))}

    def test_one_thing_otherwise(self):
        news = news_of(ONE, self.tables, [(0, (), None), (1, (2,))])
        right = {"n": unary(), "r": unary(2, 7), "x": (2, ((1, 1),))}
        self.assertIs(are_other(ONE, self.tables, news, right), True)
        self.assertIs(are_other(ONE, self.tables, list(news), {name: right[name] for name in reversed(right)}), True)
        # The tables that no atom names may have any rows.
        self.assertIs(are_other(ONE, self.tables, news, {**right, "x": (2, ())}), True)
        for bad in [{**right, "x": (1, ())}, {**right, "y": unary()}, {"n": unary(), "r": unary(2, 7)}, {**right, "r": (1, ((7,), (2,)))},
                    {**right, "r": unary(1, 2, 7)}, {**right, "n": unary(2)}, {**right, "n": unary(7, 9)}, self.tables, {}, None, (),
                    {**right, "n": (1, ((True,),))}, {**right, "n": [1, ()]}, {**right, 1: unary()}, list(right), {**right, "n": (True, ())}]:
            self.assertIs(are_other(ONE, self.tables, news, bad), False, bad)

    def test_any_value(self):
        for thing in any_values():
            self.assertIs(are_other(ONE, self.tables, (), thing), False)
            self.assertIs(are_other(ONE, self.tables, (), {**self.tables, "n": thing}), False)
            self.assertIs(are_other(ONE, self.tables, (), {**self.tables, "n": (1, thing)}), thing == () and type(thing) is tuple)

    def test_drawn(self):
        draw = drawing(383)
        seen = set()
        for question in [ONE, (("a",), (("has", "r", ("a",)), ("has", "s", ("a",))), (("a", 1, 3),))]:
            everything = small_tables(question, (1, 2, 3))
            for _ in range(40):
                tables = draw.choice(everything)
                news = news_by_hand(question, tables, drawn_looks(draw, question, tables, 5))
                if draw.random() < 0.3:
                    news += news_of(question, tables, looks_more(question, tables, news))[1:]
                for others in draw.sample(everything, 12):
                    truth = plain_are_other(question, tables, news, others)
                    seen.add(truth)
                    self.assertIs(are_other(question, tables, news, others), truth)
        self.assertEqual(seen, {True, False})


if __name__ == "__main__":
    unittest.main()
