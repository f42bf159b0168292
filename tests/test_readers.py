"""[36], [37], [8], [2], [3], [4]: news, what of it is enough, and looks that make it so."""

import copy
import unittest

from enoughlooks.boxes import is_cover
from enoughlooks.least import least, least_paper
from enoughlooks.looks import told
from enoughlooks.papers import boxes_in
from enoughlooks.readers import are_news, away_rows, enough_looks, is_enough, is_sure, kept_news, look_for, looks_more, loose_point
from enoughlooks.readers import news_of, told_boxes, told_rows
from plain_news import boxes_and_rows, drawn_looks, near_points, news_by_hand, plain_away, plain_holds_on, plain_is_enough, plain_is_loose
from plain_news import plain_row, plain_sure, plain_there, plain_told_boxes, small_tables
from plain_papers import drawn_cases, exchanged, parts_within
from plain_questions import plain_answers, plain_boxes, plain_is_answer, plain_lets, plain_looks, plain_told
from values import any_values, drawing

QUESTION = (("a", "b"), (("has", "r", ("b", "a")), ("has", "s", ("a",)), ("not", "n", ("b", "a"))), ())
TABLES = {"n": (2, ((0, 4), (7, 1))), "r": (2, ((5, 1), (5, 4), (7, 1), (8, 1))), "s": (1, ((1,), (2,), (4,)))}
SMALL = [
    (("a",), (("has", "r", ("a",)), ("has", "s", ("a",))), ()),
    (("a",), (("has", "r", ("a",)), ("not", "n", ("a",))), (("a", 1, None),)),
    (("a", "b"), (("has", "r", ("a",)), ("has", "s", ("b",)), ("not", "n", ("b",))), ()),
]


def drawn_news(seed, count, **limits):
    """NESTED QUESTIONS with TABLES and NEWS that is true on them."""
    draw = drawing(seed)
    for question, tables in drawn_cases(seed, count, **limits):
        yield question, tables, news_by_hand(question, tables, drawn_looks(draw, question, tables))


def enough_news(question, tables):
    return news_of(question, tables, enough_looks(question, tables))


class TestNews(unittest.TestCase):
    def test_news_of(self):
        for question, tables, news in drawn_news(36, 60):
            looks = [look for look, its in news]
            self.assertEqual(news_of(question, tables, looks), news)
            self.assertEqual(news_of(question, tables, tuple(looks)), news)
        self.assertEqual(news_of(QUESTION, TABLES, []), ())

    def test_true_ones(self):
        draw = drawing(360)
        for question, tables, news in drawn_news(361, 60):
            self.assertIs(are_news(question, tables, news), True)
            self.assertIs(are_news(question, tables, list(news) * 2), True)
            others = dict(tables)
            for word, name, columns in question[1]:
                rows = others[name][1]
                others[name] = (others[name][0], tuple(row for row in rows if draw.random() < 0.7))
            truth = all(plain_holds_on(question, others, pair) for pair in news)
            self.assertIs(are_news(question, others, news), truth)

    def test_one_thing_otherwise(self):
        news = news_by_hand(QUESTION, TABLES, [(0, (), None), (0, (1,), 6), (1, (), 2), (2, (1, 7)), (2, (1, 5)), (0, (), 5)])
        self.assertEqual([its for look, its in news], [("gap", None, 1), ("gap", 5, 7), ("there",), ("there",), ("away",), ("gap", 4, None)])
        self.assertIs(are_news(QUESTION, TABLES, news), True)
        for bad in [((0, (), None), ("gap", None, 2)), ((0, (), None), ("gap", None, True)), ((0, (1,), 6), ("gap", 5.0, 7)),
                    ((0, (1,), 6), ("gap", 5, 7, 7)), ((0, (1,), 6), ["gap", 5, 7]), ((0, (1,), 6), ("there",)), ((1, (), 2), ("away",)),
                    ((2, (1, 7)), ("away",)), ((2, (1, 5)), ("gap", None, None)), ((0, (2,), 6), ("gap", None, None)),
                    ((0, (1,), True), ("gap", None, 5)), ((0, (1, 5), 6), ("there",)), ((3, (), 6), ("there",)), (0, (), None),
                    ((0, (), None),), ((0, (), None), ("gap", None, 1), 1), [(0, (), None), ("gap", None, 1)], None, (), "ab"]:
            self.assertIs(are_news(QUESTION, TABLES, (bad,)), False, bad)
            self.assertIs(are_news(QUESTION, TABLES, [*news, bad]), False, bad)
        draw = drawing(362)
        others = [None, (), True, 1, 5, ("there",), ("away",), "gap"] + parts_within(news)[:30]
        pairs = {repr(pair) for pair in self.all_pairs()}
        for _ in range(300):
            thing = exchanged(draw, news, others)
            truth = isinstance(thing, (list, tuple)) and all(repr(each) in pairs for each in thing)
            self.assertIs(are_news(QUESTION, TABLES, thing), truth, repr(thing))

    def all_pairs(self):
        looks = plain_looks(QUESTION, TABLES) + [(2, (row, other)) for row in range(-1, 10) for other in range(-1, 10)]
        return news_by_hand(QUESTION, TABLES, looks)

    def test_any_value(self):
        for thing in any_values():
            self.assertIs(are_news(QUESTION, TABLES, thing), thing in ([], ()) and type(thing) in (list, tuple))
            for news in ([thing], (thing, thing), [((0, (), None), thing)], ((thing, ("there",)),),
                         [((0, (), thing), ("gap", None, None))]):
                self.assertIs(are_news(QUESTION, TABLES, news), False)


class TestTold(unittest.TestCase):
    def test_rows(self):
        for question, tables, news in drawn_news(363, 150):
            for atom, (word, name, columns) in enumerate(question[1]):
                self.assertEqual(told_rows(question, news, atom), tuple(sorted(plain_there(question, news, atom))))
                if word == "not":
                    self.assertEqual(away_rows(question, list(news), atom), tuple(sorted(plain_away(news, atom))))

    def test_rows_by_hand(self):
        looks = [(0, (), None), (0, (), 2), (0, (1,), 6), (0, (1,), 8), (0, (4,), None), (0, (4,), None), (2, (4, 0)), (2, (0, 0)),
                 (2, (0, 0))]
        news = news_of(QUESTION, TABLES, looks)
        self.assertEqual(told_rows(QUESTION, news, 0), ((1, 5), (1, 7), (1, 8), (4, 5)))
        self.assertEqual([told_rows(QUESTION, news, 1), told_rows(QUESTION, news, 2), away_rows(QUESTION, news, 2)],
                         [(), ((4, 0),), ((0, 0),)])
        # Both ends of a gap, the end of one without low, of one without high, and none of one without both.
        one = (("a",), (("has", "r", ("a",)),), ())
        for x, rows in [(3, ((2,), (6,))), (None, ((2,),)), (0, ((2,),)), (7, ((6,),)), (6, ((6,),))]:
            self.assertEqual(told_rows(one, news_of(one, {"r": (1, ((2,), (6,)))}, [(0, (), x)]), 0), rows)
        self.assertEqual(told_rows(one, news_of(one, {"r": (1, ())}, [(0, (), 3), (0, (), None)]), 0), ())

    def test_boxes(self):
        for question, tables, news in drawn_news(364, 100):
            self.assertEqual(told_boxes(news), tuple(plain_told_boxes(news)))
            self.assertEqual(told_boxes(list(news) + list(news)), tuple(plain_told_boxes(news)))
        self.assertEqual(told_boxes(()), ())

    def test_look_for(self):
        self.assertEqual(look_for(("gap", 0, (1,), None, 7)), (0, (1,), None))
        self.assertEqual(look_for(("gap", 1, (), None, None)), (1, (), None))
        self.assertEqual(look_for(("gap", 1, (3, 4), -3, None)), (1, (3, 4), -2))
        self.assertEqual(look_for(("gap", 1, (), 0, 9)), (1, (), 1))
        self.assertEqual(look_for(("row", 2, (5, 6))), (2, (5, 6)))
        for question, tables in drawn_cases(365, 60):
            boxes = plain_boxes(question, tables)
            looks = [look_for(box) for box in boxes]
            self.assertEqual(plain_told_boxes(news_by_hand(question, tables, looks)), boxes)


class TestEnough(unittest.TestCase):
    def test_all_small_tables(self):
        # The values of the tables are 1 and 2; beyond 0 and 3 no look can tell anything else.
        draw = drawing(37)
        seen = {True: 0, False: 0}
        for question in SMALL:
            everything = small_tables(question, (0, 1, 2, 3))
            inner = small_tables(question, (1, 2))
            for _ in range(25):
                tables = draw.choice(inner)
                looks = [look for look in plain_looks(question, tables) if draw.random() < draw.choice([0.3, 0.7, 1])]
                barring = [atom for atom, told in enumerate(question[1]) if told[0] == "not"]
                looks += [(atom, (value,)) for atom in barring for value in (1, 2) if draw.random() < 0.7]
                news = news_by_hand(question, tables, looks)
                agreeing = [each for each in everything if all(plain_holds_on(question, each, pair) for pair in news)]
                enough = len({tuple(plain_answers(question, each)) for each in agreeing}) == 1
                seen[enough] += 1
                self.assertIs(is_enough(question, news), enough)
        self.assertTrue(min(seen.values()) > 10, seen)

    def test_all_small_tables_of_two_columns(self):
        draw = drawing(370)
        question = (("a", "b"), (("has", "r", ("b", "a")),), (("a", 0, 2), ("b", 0, 2)))
        everything = small_tables(question, (0, 1, 2))
        seen = set()
        for _ in range(25):
            tables = draw.choice(everything[:40] + everything[-40:])
            looks = draw.sample(plain_looks(question, tables), min(12, len(plain_looks(question, tables))))
            news = news_by_hand(question, tables, looks + [look for look in looks if look[1] == ()])
            if draw.random() < 0.6:
                news += news_of(question, tables, looks_more(question, tables, news))[:draw.choice([-1, None])]
            agreeing = [each for each in everything if all(plain_holds_on(question, each, pair) for pair in news)]
            enough = len({tuple(plain_answers(question, each)) for each in agreeing}) == 1
            seen.add(enough)
            self.assertIs(is_enough(question, news), enough)
        self.assertEqual(seen, {True, False})

    def check_loose(self, question, news):
        point = loose_point(question, news)
        self.assertEqual(point is None, plain_is_enough(question, news))
        self.assertIs(is_enough(question, news), point is None)
        if point is not None:
            self.assertEqual((type(point), len(point)), (tuple, len(question[0])))
            self.assertTrue(all(type(value) is int and plain_lets(question, column, value) for column, value in zip(question[0], point)))
            self.assertTrue(plain_is_loose(question, news, point), (question, news, point))

    def test_loose_points(self):
        draw = drawing(371)
        for question, tables, news in drawn_news(372, 80, most_columns=3, most_rows=4):
            self.check_loose(question, news)
            whole = enough_news(question, tables)
            self.check_loose(question, whole)
            for _ in range(4):
                left = [pair for pair in whole if draw.random() < 0.8]
                self.check_loose(question, tuple(left) + news[:3])
            if whole:
                at = draw.randrange(len(whole))
                self.check_loose(question, whole[:at] + whole[at + 1:])

    def test_no_news(self):
        for question, tables in drawn_cases(373, 20):
            self.assertIs(is_enough(question, ()), False)
            self.assertTrue(plain_is_loose(question, (), loose_point(question, [])))

    def test_sure(self):
        draw = drawing(374)
        for question, tables, news in drawn_news(375, 60, most_columns=3, most_rows=4):
            whole = enough_news(question, tables) + news
            for pairs in (news, whole, [pair for pair in whole if draw.random() < 0.8]):
                points = list(near_points(question, whole))
                for point in plain_answers(question, tables) + draw.sample(points, min(10, len(points))):
                    self.assertIs(is_sure(question, pairs, point), plain_sure(question, pairs, point))

    def test_an_answer_that_is_not_sure(self):
        question = (("a",), (("has", "r", ("a",)), ("not", "n", ("a",))), ())
        tables = {"n": (1, ()), "r": (1, ((5,),))}
        news = news_of(question, tables, [(0, (), None), (0, (), 6)])
        self.assertEqual([is_enough(question, news), loose_point(question, news), is_sure(question, news, (5,))], [False, (5,), False])
        news += news_of(question, tables, [(1, (5,))])
        self.assertEqual([is_enough(question, news), loose_point(question, news), is_sure(question, news, (5,))], [True, None, True])

    def test_siblings(self):
        # Nothing at one root is enough, whatever there is at the other.
        question = (("a", "b"), (("has", "r", ("a",)), ("has", "s", ("b",))), ())
        tables = {"r": (1, ()), "s": (1, ((3,),))}
        self.assertIs(is_enough(question, news_of(question, tables, [(0, (), None)])), True)
        news = news_of(question, tables, [(1, (), None), (1, (), 4)])
        self.assertEqual([is_enough(question, news), loose_point(question, news)[1]], [False, 3])


class TestKeptNews(unittest.TestCase):
    def test_by_trying(self):
        for question, tables, news in drawn_news(376, 60, most_columns=3, most_rows=5):
            whole = news[:4] + enough_news(question, tables) + news
            held = copy.deepcopy(whole)
            kept = list(range(len(whole)))
            for index in reversed(range(len(whole))):
                left = [each for each in kept if each != index]
                if is_enough(question, [whole[each] for each in left]):
                    kept = left
            self.assertEqual(kept_news(question, whole), tuple(kept))
            self.assertEqual(kept_news(question, list(whole)), tuple(kept))
            self.assertEqual(whole, held)
            self.assertTrue(plain_is_enough(question, [whole[each] for each in kept]))

    def test_from_the_last_one_on(self):
        question = (("a",), (("has", "r", ("a",)),), ())
        news = news_of(question, {"r": (1, ())}, [(0, (), 3), (0, (), None), (0, (), 5)])
        self.assertEqual(kept_news(question, news), (0,))
        # The second look tells nothing that the ends of gaps do not tell.
        news = news_of(question, {"r": (1, ((4,),))}, [(0, (), None), (0, (), 4), (0, (), 5)])
        self.assertEqual(kept_news(question, news), (0, 2))


class TestMoreLooks(unittest.TestCase):
    def check(self, question, tables, news):
        held = copy.deepcopy((tables, news))
        looks = looks_more(question, tables, news)
        self.assertIs(type(looks), list)
        self.assertEqual((tables, news), held)
        pairs = list(news)
        for look in looks:
            known = boxes_and_rows(question, pairs)
            pairs.append((look, told(question, tables, look)))
            fresh = boxes_and_rows(question, pairs) - known
            rows = [each[1:] for each in fresh if each[0] == "row"]
            answers = [point for point in plain_answers(question, tables) if any(plain_row(question, atom, point) == row for atom,
                                                                                 row in rows)]
            self.assertTrue(answers or any(each[0] == "box" for each in fresh), (look, fresh))
        self.assertTrue(plain_is_enough(question, pairs))
        return looks

    def test_drawn(self):
        for question, tables, news in drawn_news(377, 25, most_columns=3, most_rows=4):
            self.check(question, tables, ())
            self.check(question, tables, news)
            whole = enough_news(question, tables)
            self.check(question, tables, list(whole[::2]))
            self.assertEqual(self.check(question, tables, whole), [])

    def test_enough_looks(self):
        for question, tables in drawn_cases(378, 80):
            looks = enough_looks(question, tables)
            boxes = boxes_in(least_paper(question, tables))
            self.assertEqual(looks[:len(boxes)], [look_for(box) for box in boxes])
            news = news_by_hand(question, tables, looks)
            self.assertEqual(looks[len(boxes):], looks_more(question, tables, news[:len(boxes)]))
            self.assertIs(is_enough(question, news), True)
            answers = plain_answers(question, tables)
            parts = {(atom, plain_row(question, atom, point)) for point in answers for atom in range(len(question[1]))}
            self.assertTrue(least(question, tables) <= len(looks) <= len(boxes) + len(parts))
            for look in looks[len(boxes):]:
                self.assertIn((look[0], look[1] + look[2:]), parts)

    def test_what_is_returned_is_new(self):
        enough_looks(QUESTION, TABLES).clear()
        looks_more(QUESTION, TABLES, ()).clear()
        self.assertEqual([len(enough_looks(QUESTION, TABLES)) > 0, len(looks_more(QUESTION, TABLES, ())) > 0], [True, True])


class TestNoReaderCanDoWithLess(unittest.TestCase):
    def test_enough_news_covers(self):
        for question, tables, news in drawn_news(379, 80, most_columns=3, most_rows=4):
            whole = news + enough_news(question, tables)
            kept = [whole[index] for index in kept_news(question, whole)]
            boxes = told_boxes(kept)
            self.assertIs(is_cover(question, tables, boxes), True)
            self.assertTrue(len(kept) >= len(boxes) >= least(question, tables))

    def test_answers_are_known_by_enough_news(self):
        # What is neither held nor SURE there is none, so the SURE points are just the ANSWERS.
        for question, tables in drawn_cases(3790, 40, most_columns=3, most_rows=4):
            news = enough_news(question, tables)
            for point in near_points(question, news):
                self.assertIs(is_sure(question, news, point), plain_is_answer(question, tables, point))
                self.assertEqual([plain_told(question, tables, look) for look, its in news], [its for look, its in news])


if __name__ == "__main__":
    unittest.main()
