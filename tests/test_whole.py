"""[5] to [10]: what the document promises over the whole program."""

import unittest

from enoughlooks.apart import apart_points, is_apart
from enoughlooks.boxes import is_cover
from enoughlooks.desk import Desk
from enoughlooks.engine import measured, run
from enoughlooks.errors import PowerCut
from enoughlooks.house import House
from enoughlooks.judge import is_paper, plain_paper
from enoughlooks.kept import Kept
from enoughlooks.least import least, least_paper
from enoughlooks.meaning import answers
from enoughlooks.papers import boxes_in, shape_told, size_of
from enoughlooks.reader import show_question
from enoughlooks.readers import enough_looks, is_enough, kept_news, news_of, told_boxes
from enoughlooks.shapes import points_of
from enoughlooks.tables import changed
from plain_papers import drawn_cases
from values import drawing


def makings(tables):
    """The EDITS that make TABLES."""
    edits = [("table", name, tables[name][0]) for name in tables]
    return edits + [("put", name, row) for name in tables for row in tables[name][1]]


class TestTheSameAnswers(unittest.TestCase):
    def test_asked_in_each_way(self):
        for question, tables in drawn_cases(5, 60):
            points = answers(question, tables)
            lines = [" ".join(str(value) for value in point) for point in points]
            self.assertEqual(list(points_of(question, run(question, tables)[0])), points)
            self.assertEqual(list(points_of(question, shape_told(least_paper(question, tables)))), points)
            kept = Kept(question, tables)
            self.assertEqual(list(points_of(question, kept.shape())), points)
            house = House({})
            house.commit(makings(tables) + [("question", "q", show_question(question))])
            self.assertEqual(list(house.points("q")), points)
            self.assertEqual(house.answer("q"), run(question, tables)[:2])
            desk = Desk(house.files())
            self.assertEqual((desk.execute("ask q"), desk.execute("many q")), (lines, [str(len(points))]))
            self.assertEqual((kept.many(), house.done()), (len(points), kept.done()))
            if len(points) <= 200:
                house.view("q", "view")
                self.assertEqual(house.tables()["view"], (len(question[0]), tuple(points)))

    def test_while_rows_come_and_go(self):
        draw = drawing(6)
        for question, tables in drawn_cases(60, 15):
            kept = Kept(question, tables)
            house = House({})
            house.commit(makings(tables) + [("question", "q", show_question(question))])
            for _ in range(8):
                name = draw.choice(sorted(tables))
                edit = (draw.choice(["put", "take"]), name, tuple(draw.randrange(-2, 4) for _ in range(tables[name][0])))
                tables = changed(tables, [edit])
                house.commit([edit])
                kept.put(*edit[1:]) if edit[0] == "put" else kept.take(*edit[1:])
                points = answers(question, tables)
                self.assertEqual(list(points_of(question, kept.shape())), points)
                self.assertEqual(list(house.points("q")), points)
                self.assertEqual((house.tables(), kept.tables(), house.done()), (tables, tables, kept.done()))


class TestLeast(unittest.TestCase):
    def test_boxes_points_and_papers_agree(self):
        for question, tables in drawn_cases(7, 60):
            fewest = least(question, tables)
            points = apart_points(question, tables)
            paper = least_paper(question, tables)
            self.assertEqual((len(points), is_apart(question, tables, points)), (fewest, True))
            self.assertEqual((size_of(paper), is_paper(question, tables, paper)), (fewest, True))
            for other in (plain_paper(question, tables), run(question, tables)[1]):
                self.assertIs(is_paper(question, tables, other), True)
                self.assertIs(is_cover(question, tables, tuple(boxes_in(other))), True)
                self.assertGreaterEqual(size_of(other), fewest)
                self.assertEqual(shape_told(other), shape_told(paper))

    def test_no_reader_can_do_with_less(self):
        for question, tables in drawn_cases(8, 40):
            looks = run(question, tables)[2]
            for news in (news_of(question, tables, enough_looks(question, tables)), news_of(question, tables, looks)):
                kept = [news[index] for index in kept_news(question, news)]
                self.assertIs(is_cover(question, tables, told_boxes(kept)), True)
                self.assertGreaterEqual(len(kept), least(question, tables))

    def test_the_looks_of_the_engine_are_enough(self):
        # Whoever answers rightly on all tables has looked enough.
        for question, tables in drawn_cases(80, 60):
            self.assertIs(is_enough(question, news_of(question, tables, run(question, tables)[2])), True)

    def test_the_bound(self):
        for question, tables in drawn_cases(9, 80):
            fewest, places, looks, most = measured(question, tables)
            self.assertTrue(fewest <= looks <= most)


class TestPower(unittest.TestCase):
    commits = ["table r 2 ; table s 1", "put r 1 5 ; put r 2 7 ; put s 1", "question q columns a b | has r a b | has s a",
               "put s 2", "view q v", "take r 1 5 ; drop s", "table s 1 ; put s 2", "forget q ; drop v"]

    def test_wherever_it_fails(self):
        """Power fails once in each deed of a row of commits, and once in the mending behind it."""
        desk, tables = Desk({}), [{}]
        for line in self.commits:
            desk.execute(line)
            tables.append(desk.house().tables())
        for fates in ("", " lost lost lost lost lost", " 3 0 done 7 lost"):
            for many in range(0, 75):
                self.cut(tables, many, fates)

    def cut(self, tables, many, fates):
        desk = Desk({})
        desk.execute(f"cut {many}{fates}")
        answered = 0
        try:
            for line in self.commits:
                desk.execute(line)
                answered += 1
        except PowerCut:
            self.assertIs(desk.house().has_power(), False)
        commits = int(desk.execute("commits")[0])
        self.assertIn(commits, (answered, answered + 1))
        self.assertEqual(desk.house().tables(), tables[commits])
        desk.execute("power")
        desk.execute(f"cut {many % 3}{fates}")
        try:
            desk.execute("mend")
        except PowerCut:
            self.assertEqual(desk.house().tables(), tables[commits])
        desk.execute("power")
        desk.execute("mend")
        files = desk.house().files()
        desk.execute("mend")
        self.assertEqual(desk.house().files(), files)
        for line in self.commits[commits:]:
            desk.execute(line)
        self.assertEqual((desk.house().tables(), desk.execute("commits")), (tables[-1], [str(len(self.commits))]))


if __name__ == "__main__":
    unittest.main()
