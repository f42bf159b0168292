"""[26], [6], [2], [3], [4]: the judge, and the paper that spares nothing."""

import copy
import unittest

from enoughlooks.boxes import is_cover, true_boxes
from enoughlooks.judge import is_paper, plain_paper
from enoughlooks.least import least_paper
from enoughlooks.papers import boxes_in, shape_told, size_of
from plain_papers import PlainJudge, drawn_cases, exchanged, few_of, parts_within, plain_is_cover
from plain_questions import plain_answers, plain_children, plain_shape
from values import any_values, drawing

TABLES = {"m": (1, ((1,), (4,))), "n": (1, ((4,),)), "r": (2, ((1, 5), (1, 7), (4, 5))), "s": (1, ((1,), (2,), (4,)))}
QUESTION = (("a", "b"), (("has", "r", ("a", "b")), ("has", "s", ("a",)), ("not", "n", ("a",))), ())
BELOW = (((0, None, 5), (0, 5, 7), (0, 7, None)), ((5, ("all", ())), (7, ("all", ()))))
GAPS = ((0, None, 1), (0, 1, 4), (0, 4, None))
VALUES = ((1, ("all", (BELOW,))), (4, ("row", 2)))


def paper_of(gaps=GAPS, values=VALUES):
    return "all", ((gaps, values),)


def below_of(gaps=BELOW[0], values=BELOW[1]):
    """The paper with another LEVEL behind 1."""
    return paper_of(GAPS, ((1, ("all", ((gaps, values),))), VALUES[1]))


class TestIsPaper(unittest.TestCase):
    def all_are(self, truth, papers, question=QUESTION, tables=TABLES):
        for paper in papers:
            self.assertIs(is_paper(question, tables, paper), truth, repr(paper))

    def test_papers(self):
        more = ((0, None, 1), (1, None, 1), (0, 1, 4), (1, 2, 4), (0, 4, None), (1, 4, None))
        self.all_are(True, [paper_of(), below_of(), paper_of(more), paper_of(((1, None, 1), (0, 1, 4), (1, 4, None)))])

    def test_gaps(self):
        self.all_are(False, [
            paper_of(GAPS[1:]), paper_of(GAPS[:-1]), paper_of((GAPS[0], GAPS[2])), paper_of(()), paper_of(GAPS[:1] + GAPS),
            paper_of(GAPS + GAPS[2:]), paper_of(GAPS[::-1]), paper_of((GAPS[1], GAPS[0], GAPS[2])),
            paper_of(((0, None, 1), (1, 2, 4), (0, 4, None))),
            paper_of(((1, None, 1), (0, None, 1), (0, 1, 4), (0, 4, None))),
            paper_of(((0, None, 1), (0, 1, 4), (1, 4, None), (0, 4, None))),
            paper_of(((0, None, 1), (0, 1, 4), (1, 1, 4), (0, 4, None))),
            paper_of(((0, None, 1), (0, 1, 2), (0, 1, 4), (0, 4, None))),
            paper_of(((0, None, 4), (0, 4, None))), paper_of(((2, None, 1), (0, 1, 4), (0, 4, None))),
            paper_of(((3, None, 1),) + GAPS[1:]),
            paper_of(((False, None, 1),) + GAPS[1:]), paper_of(GAPS[:2] + ((True, 4, None),)),
            paper_of(((0, None, True),) + GAPS[1:]),
            paper_of(((0, None),) + GAPS[1:]), paper_of(((0, None, 1, 1),) + GAPS[1:]), paper_of(([0, None, 1],) + GAPS[1:]),
            paper_of(list(GAPS)), paper_of(((-1, None, 1),) + GAPS[1:]), paper_of((("0", None, 1),) + GAPS[1:]),
            paper_of((None,) + GAPS[1:]),
            paper_of(((0, 1, None), (0, 1, 4), (0, 4, None))), below_of(((1, None, 5),) + BELOW[0][1:]), below_of(BELOW[0][:2]),
            below_of(((0, None, 1),) + BELOW[0]), below_of(GAPS),
        ])

    def test_values(self):
        self.all_are(False, [
            paper_of(GAPS, VALUES[1:]), paper_of(GAPS, VALUES[:1]), paper_of(GAPS, ()), paper_of(GAPS, VALUES[::-1]),
            paper_of(GAPS, VALUES + VALUES[1:]),
            paper_of(GAPS, VALUES[:1] + VALUES), paper_of(GAPS, VALUES + ((9, ("row", 2)),)),
            paper_of(GAPS, VALUES[:1] + ((2, ("row", 2)),) + VALUES[1:]),
            paper_of(GAPS, ((True, VALUES[0][1]), VALUES[1])), paper_of(GAPS, list(VALUES)),
            paper_of(GAPS, ([1, VALUES[0][1]], VALUES[1])),
            paper_of(GAPS, ((1,), VALUES[1])), paper_of(GAPS, ((1, VALUES[0][1], 1), VALUES[1])),
            paper_of(GAPS, (("1", VALUES[0][1]), VALUES[1])),
            paper_of(GAPS[:1] + GAPS[2:], VALUES[:1] + ((2, ("all", (BELOW,))), (3, ("all", (BELOW,)))) + VALUES[1:]),
            below_of(BELOW[0], ((5, ("all", ())),)), below_of(BELOW[0], BELOW[1] + ((8, ("all", ())),)),
            below_of(BELOW[0][:2], BELOW[1] + ((8, ("all", ())),)),
        ])

    def test_what_is_told_of_values(self):
        for what in [("row", 0), ("row", 1), ("row", 3), ("row", -1), ("row", True), ("row", "2"), ("row", None), ("row",),
                     ("row", 2, 2), ["row", 2], ("all", (BELOW,)), ("all", ((((0, None, 5), (0, 5, None)), ((5, ("all", ())),)),)),
                     ("all", ()), None, 2, (), ("has", 2), ("Row", 2)]:
            self.all_are(False, [paper_of(GAPS, (VALUES[0], (4, what)))])
        for what in [("row", 2), ("row", 0), ("all", ()), ("all", [BELOW]), ["all", (BELOW,)], ("all", (BELOW, BELOW)),
                     ("all", BELOW), ("all",), ("one", 0, BELOW), BELOW, ("all", (BELOW,), 0), ("All", (BELOW,)), None, ("all", None)]:
            self.all_are(False, [paper_of(GAPS, ((1, what), VALUES[1]))])
        for what in [("all", (BELOW,)), (), ("one", 0, BELOW), ("row", 2)]:
            self.all_are(False, [below_of(BELOW[0], ((5, what), (7, ("all", ()))))])

    def test_a_row_that_several_atoms_have(self):
        question = QUESTION[:1] + (QUESTION[1] + (("not", "m", ("a",)),),) + QUESTION[2:]
        truths = {("row", 2): False, ("row", 3): True}
        for what in truths:
            for other in truths:
                self.all_are(truths[what], [paper_of(GAPS, ((1, what), (4, other)))], question)
        self.all_are(False, [paper_of()], question)

    def test_a_row_of_a_value_that_is_not_there(self):
        # A "not" atom has it, which is enough.
        question = (("a",), (("has", "s", ("a",)), ("not", "n", ("a",))), (("a", 3, 4),))
        tables = {"s": (1, ((4,),)), "n": (1, ((3,), (4,)))}
        self.all_are(True, [("all", (((), ((3, ("row", 1)), (4, ("row", 1)))),)),
                            ("all", ((((0, None, 4),), ((4, ("row", 1)),)),))], question, tables)
        for what in (True, 0, 2, (1,)):
            self.all_are(False, [("all", (((), ((3, ("row", what)), (4, ("row", 1)))),))], question, tables)
        self.all_are(False, [("all", ((((0, None, 4),), ((3, ("row", 1)), (4, ("row", 1)))),)),
                             ("all", (((), ((3, ("all", ())), (4, ("row", 1)))),))],
                     question, tables)

    def test_ranges(self):
        question = (("a",), (("has", "s", ("a",)),), (("a", 2, 2),))
        tables = {"s": (1, ((2,), (6,)))}
        self.all_are(True, [("all", (((), ((2, ("all", ())),)),))], question, tables)
        self.all_are(False, [("all", ((((0, None, 2),), ((2, ("all", ())),)),)), ("all", ((((0, 2, 6),), ((2, ("all", ())),)),))],
                             question, tables)
        for low, high, gaps in [(2, 6, (1,)), (2, 7, (1, 2)), (1, 6, (0, 1)), (1, None, (0, 1, 2)), (None, 3, (0, 1)), (3, 5, (1,)),
                                (6, 6, ()), (7, None, (2,)), (None, 1, (0,)), (None, None, (0, 1, 2)), (3, 10 ** 40, (1, 2)),
                                (-10 ** 40, 1, (0,))]:
            its = [((0, None, 2), (0, 2, 6), (0, 6, None))[index] for index in gaps]
            told = tuple((value, ("all", ())) for value in (2, 6) if (low is None or value >= low) and (high is None or value <= high))
            bounded = question[:2] + ((("a", low, high),),)
            self.all_are(True, [("all", ((tuple(its), told),))], bounded, tables)
            for gap in its:
                self.all_are(False, [("all", ((tuple(other for other in its if other != gap), told),))], bounded, tables)
            for more in {(0, None, 2), (0, 2, 6), (0, 6, None)} - set(its):
                place = [(0, None, 2), (0, 2, 6), (0, 6, None)]
                self.all_are(False, [("all", ((tuple(sorted([*its, more], key=place.index)), told),))], bounded, tables)

    def test_one_of_siblings(self):
        two = (("a", "b"), (("has", "s", ("a",)), ("has", "n", ("b",))), (("b", 5, 9),))
        nothing = (((1, 4, None),), ())
        some = (((0, None, 1), (0, 2, 4), (0, 4, None)), ((1, ("all", ())), (2, ("all", ())), (4, ("all", ()))))
        self.all_are(True, [("one", 1, nothing), ("all", (some, nothing))], two)
        self.all_are(False, [("one", 0, nothing), ("one", 0, some), ("one", True, nothing), ("one", -1, nothing),
                             ("one", 2, nothing), ("one", 1, some),
                             ("one", "1", nothing), ("one", 1), ("one", 1, nothing, nothing), ["one", 1, nothing],
                             ("all", (nothing,)), ("all", (some,)),
                             ("all", (nothing, some)), ("all", (some, nothing, nothing)), ("one", 1, ((), ())), ("all", nothing),
                             ("one", None, nothing),
                             ("one", 1, (nothing,)), ("two", 1, nothing), ("one", (1,), nothing)], two)

    def test_one_that_tells_answers(self):
        self.all_are(False, [("one", 0, (GAPS, VALUES))])
        barred = {**TABLES, "n": (1, ((1,), (4,)))}
        level = (GAPS, ((1, ("row", 2)), (4, ("row", 2))))
        self.all_are(True, [("one", 0, level), ("all", (level,))], QUESTION, barred)

    def test_any_value(self):
        for thing in any_values():
            self.all_are(False, [thing, ("all", thing), ("one", 0, thing), ("all", (thing,)), ("one", thing, (GAPS, VALUES)),
                                 ("all", ((GAPS, thing),)),
                                 ("all", ((thing, VALUES),)), (thing, ((GAPS, VALUES),)),
                                 paper_of(GAPS, ((thing, VALUES[0][1]), VALUES[1])),
                                 paper_of(GAPS, ((1, thing), VALUES[1])), paper_of(((thing, None, 1),) + GAPS[1:]),
                                 paper_of(((0, None, thing),) + GAPS[1:]),
                                 paper_of(GAPS, (VALUES[0], (4, ("row", thing)))), paper_of(GAPS, (VALUES[0], (4, (thing, 2))))])
            # A gap without a low is one of None.
            self.all_are(thing is None, [paper_of(((0, thing, 1),) + GAPS[1:]), paper_of(GAPS[:2] + ((0, 4, thing),))])

    def test_parts_exchanged(self):
        draw = drawing(41)
        truths = []
        for question, tables in drawn_cases(41, 90, 4, 7):
            judge = PlainJudge(question, tables)
            for paper in [plain_paper(question, tables), least_paper(question, tables)]:
                self.assertIs(judge.takes(paper), True)
                others = parts_within(paper)
                others = draw.sample(others, min(len(others), 30)) + any_values()[:12]
                for _ in range(40):
                    thing = exchanged(draw, paper, others)
                    if draw.random() < 0.2:
                        thing = exchanged(draw, thing, others)
                    expected = judge.takes(thing)
                    self.assertIs(is_paper(question, tables, thing), expected, repr(thing))
                    truths.append(expected)
        self.assertGreater(truths.count(True), 200)
        self.assertGreater(truths.count(False), 2000)

    def spared(self, draw, question, tables, thing):
        """A paper that the judge takes, by leaving out of another one, now and then, a gap, or all siblings but one."""
        judge = PlainJudge(question, tables)
        for _ in range(25):
            other = self.less(draw, thing)
            if judge.takes(other):
                thing = other
        return thing

    def less(self, draw, thing):
        if thing[0] == "all" and thing[1] and draw.random() < 0.3:
            index = draw.randrange(len(thing[1]))
            return "one", index, thing[1][index]
        levels = list(thing[1] if thing[0] == "all" else thing[2:])
        if not levels:
            return thing
        at = draw.randrange(len(levels))
        gaps, values = levels[at]
        below = [place for place, (value, what) in enumerate(values) if what[0] != "row"]
        if gaps and (not below or draw.random() < 0.5):
            place = draw.randrange(len(gaps))
            levels[at] = (gaps[:place] + gaps[place + 1:], values)
        elif below:
            place = draw.choice(below)
            value, what = values[place]
            levels[at] = (gaps, values[:place] + ((value, self.less(draw, what)),) + values[place + 1:])
        return ("all", tuple(levels)) if thing[0] == "all" else thing[:2] + (levels[0],)

    def test_what_the_judge_takes_is_a_cover_and_tells_the_shape(self):
        draw = drawing(6)
        fewer = 0
        for question, tables in drawn_cases(42, 90, 4, 7):
            shape = plain_shape(question, plain_answers(question, tables))
            plain = plain_paper(question, tables)
            for paper in [plain, least_paper(question, tables), self.spared(draw, question, tables, plain)]:
                self.assertIs(is_paper(question, tables, paper), True)
                self.assertTrue(plain_is_cover(question, tables, boxes_in(paper)))
                self.assertIs(is_cover(question, tables, boxes_in(paper)), True)
                self.assertEqual(shape_told(paper), shape)
                fewer += size_of(paper) < size_of(plain)
        self.assertGreater(fewer, 60)

    def test_arguments_stay(self):
        tables = {name: TABLES[name] for name in ("s", "r", "n")}
        elder = copy.deepcopy(list(tables.items()))
        thing = ("all", [[list(GAPS), {}]])
        is_paper(QUESTION, tables, thing)
        is_paper(QUESTION, tables, paper_of())
        plain_paper(QUESTION, tables)
        least_paper(QUESTION, tables)
        self.assertEqual(list(tables.items()), elder)
        self.assertEqual(thing, ("all", [[list(GAPS), {}]]))


class TestPlainPaper(unittest.TestCase):
    def test_all_gaps_and_all_siblings(self):
        question = (("a", "b"), (("has", "s", ("a",)), ("has", "n", ("b",)), ("not", "m", ("a",)), ("has", "t", ("a",)),
                     ("not", "k", ("a",))),
                    (("a", 0, 5), ("b", 5, 9)))
        tables = {**TABLES, "t": (1, ((-7,), (1,), (2,), (3,), (4,), (9,))), "k": (1, ((1,), (2,), (3,)))}
        gaps = ((0, None, 1), (3, -7, 1), (0, 2, 4), (0, 4, None), (3, 4, 9))
        values = ((1, ("row", 2)), (2, ("row", 4)), (4, ("row", 2)))
        self.assertEqual(plain_paper(question, tables), ("all", ((gaps, values), (((1, 4, None),), ()))))
        # The least atom is that of the question, not of the tables.
        turned = question[:1] + (question[1][::-1],) + question[2:]
        self.assertEqual(plain_paper(turned, tables)[1][0][1], ((1, ("row", 0)), (2, ("row", 0)), (4, ("row", 2))))

    def test_drawn(self):
        for question, tables in drawn_cases(43, 80):
            paper = plain_paper(question, tables)
            self.assertIs(PlainJudge(question, tables).takes(paper), True)
            self.check_siblings(question, tables, paper, None, ())

    def check_siblings(self, question, tables, paper, parent, prefix):
        judge = PlainJudge(question, tables)
        boxes = true_boxes(question, tables)
        columns = plain_children(question, parent)
        self.assertEqual([paper[0], len(paper[1])], ["all", len(columns)])
        for column, (gaps, values) in zip(columns, paper[1]):
            having = [box for box in boxes if box[0] == "gap" and box[2] == prefix and judge.atoms[box[1]][1][len(prefix)] == column]
            some = few_of(question, column)
            expected = {(box[1], *box[3:]) for box in having
                        if any((box[3] is None or x > box[3]) and (box[4] is None or x < box[4]) for x in some)}
            self.assertEqual(set(gaps), expected)
            for value, what in values:
                rows = [box for box in boxes if box[0] == "row" and box[2] == prefix + (value,)]
                barring = [box[1] for box in rows if judge.atoms[box[1]][1][-1] == column]
                if barring:
                    self.assertEqual(what, ("row", min(barring)))
                else:
                    self.check_siblings(question, tables, what, column, prefix + (value,))


if __name__ == "__main__":
    unittest.main()
