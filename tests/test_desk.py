"""[42], [14], [17], [35], [3], [4]: a desk that leads a house by lines."""

import unittest

from enoughlooks.apart import apart_points
from enoughlooks.desk import Desk
from enoughlooks.engine import measured
from enoughlooks.errors import BadRow, LookError, NoCommand, NoName, NoPoint, NoTable, NoText, NotFit, NotNested, PowerCut
from enoughlooks.errors import TooMany, Twice, Wrong
from enoughlooks.house import House
from enoughlooks.journal import is_sound
from enoughlooks.papers import boxes_in
from enoughlooks.store import Store
from enoughlooks.texts import show_tables
from values import any_values

START = "table r 2 ; put r 1 5 ; put r 2 7 ; put r 2 -3 ; table s 1 ; put s 1 ; put s 2 ; table n 2 ; put n 7 2"
QUESTION = "question q columns a b | has r a b | has s a | not n b a"
BAD = """; put | ;; table | table r | table r 0 | table r -1 | table r 1 2 | table R 1 | table r x | table r 01 | table r +1 | table r 1234567890
drop | drop r s | drop R | put r | put R 1 | put r x | put r 1 x | put r 1.5 | put r 01 | put r 1234567890 | put r -1234567890 | put r --1
put r - | take | take r | take r 1 - | forget | forget q p | forget Q | question | question Q has r a | question 1q has r a | put r 1 ; | ; put r 1 5
put r 1 5 ; page q 1 0 | put r 1 5 ; view q v | put r 1 5 ; cut 1 | put r 1 5 ; mend
put r 1 5 ; ; put r 1 5 | put r 1 5 ; tables | tables ; put r 1 5 | put r 1 5 ; ask q | put r 1 5; put r 1 6 | ask | ask Q | ask q q | ask q 1
many | many q q | paper | paper q 1 | measure | measure q q | apart | apart q q | page q | page q 1 | page q 0 0 | page q -1 0 | page q 1 -1
page q 1 0 0 | page q x 0 | page q 1 x | page Q 1 0 | page q 1234567890 0 | page q 1 1234567890 | page q 01 0 | page q 1 00 | page q 1 -0
page 1 1 1 | view | view q | view q V | view Q v | view q v w | view q 1 | tables r | tables tables | questions q | looks q | commits q
commits 1 | cut | cut -1 | cut x | cut 1 Done | cut 1 maybe | cut 1 -1 | cut 1 done lost x | cut 1234567890
cut 1 1234567890 | cut 01 | cut 1 ; mend
power 1 | power power | mend 1 | mend q | help | note q text | ASK q | Tables | asks q | q | 1 | - | put\tr 1 5 | tables\t"""


def started():
    desk = Desk({})
    desk.execute(START)
    desk.execute(QUESTION)
    return desk


class Desks(unittest.TestCase):
    def fails(self, expected, desk, line):
        with self.assertRaises(LookError) as caught:
            desk.execute(line)
        self.assertIs(type(caught.exception), type(expected), line)
        self.assertEqual(vars(caught.exception), vars(expected), line)


class TestChanges(Desks):
    def test_one_and_several(self):
        desk = Desk({})
        self.assertEqual([desk.execute(line) for line in ("table r 2", "put r 1 5", "put r 1 5", "put r -7 0", "take r 1 5",
                                                          "take r 9 9")],
                         [["done"]] * 6)
        self.assertEqual((desk.house().tables(), desk.execute("commits")), ({"r": (2, ((-7, 0),))}, ["6"]))
        self.assertEqual(desk.execute("drop r ; table r 1 ; put r 999999999 ; put r -999999999 ; question q has r a"), ["done"])
        self.assertEqual((desk.house().tables(), desk.execute("commits")), ({"r": (1, ((-999999999,), (999999999,)))}, ["7"]))
        self.assertEqual([desk.execute("forget q ; drop r"), desk.execute("questions"), desk.execute("tables")], [["done"], [], []])

    def test_blanks(self):
        desk = Desk({})
        self.assertEqual(desk.execute("   table   r  2   ;  put  r   1  5 "), ["done"])
        self.assertEqual(desk.execute("  question  q   columns  b   a  |   has  r  a   b  "), ["done"])
        self.assertEqual([desk.execute("  ask   q "), desk.execute(" tables  "), desk.execute("  page  q  1   0 ")],
                         [["5 1"], ["table r 2", "1 5"], ["5 1"]])
        self.assertEqual([desk.execute("  cut   0   done  3 "), desk.execute("  power "), desk.execute("view  q   v ")], [["done"]] * 3)

    def test_texts_of_questions(self):
        desk = Desk({})
        for line, text in [("question q has r a", "columns a\nhas r a"), ("question q | has r a | |", "columns a\nhas r a"),
                           ("question q has r a # | no | range a 1 2", None), ("question q has r a # no | range a 1 2",
                                                                               "columns a\nhas r a\nrange a 1 2"),
                           ("question q has r a b | not n a | range b - -4", "columns a b\nhas r a b\nnot n a\nrange b - -4")]:
            if text is None:
                self.fails(NoText(1), desk, line)
            else:
                self.assertEqual(desk.execute(line), ["done"])
                self.assertEqual(Store(desk.house().files()).notes(), {"q": text})
        self.fails(NoText(1), desk, "question q")
        self.fails(NoText(2), desk, "question q |")
        self.fails(NoText(0), desk, "question q has r a|")
        self.fails(NoText(1), desk, "question q has r a | hase s a")
        self.fails(NotNested(), desk, "question q has r a | has s a b | has t b")
        self.fails(NoText(0), desk, "question q question p has r a")

    def test_what_the_house_raises(self):
        desk = started()
        files = desk.house().files()
        for line, expected in [("put x 1", NoTable("x")), ("put r 1", BadRow("r", (1,))), ("take r 1 2 3", BadRow("r", (1, 2, 3))),
                               ("drop x", NoTable("x")), ("table r 2", Twice("r")), ("forget x", NoName("x")),
                               ("put r 1 1 ; put r 1 2 ; put s 1 1", BadRow("s", (1, 1))), ("drop r ; question p has", NoText(0)),
                               ("put x 1 ; question p has", NoText(0)), ("view x v", NoName("x"))]:
            self.fails(expected, desk, line)
            self.assertEqual(desk.house().files(), files)


class TestAsking(Desks):
    def test_points_and_pages(self):
        desk = started()
        self.assertEqual(desk.execute("ask q"), ["1 5", "2 -3"])
        self.assertEqual(desk.execute("many q"), ["2"])
        self.assertEqual([desk.execute("page q 1 0"), desk.execute("page q 1 1"), desk.execute("page q 5 0"),
                          desk.execute("page q 999999999 0")],
                         [["1 5"], ["2 -3"], ["1 5", "2 -3"], ["1 5", "2 -3"]])
        self.fails(NoPoint(2), desk, "page q 1 2")
        self.fails(NoPoint(1), desk, "page q 2 1")
        desk.execute("question q has r a b | range a 8 9")
        self.assertEqual([desk.execute("ask q"), desk.execute("many q")], [[], ["0"]])
        self.fails(NoPoint(0), desk, "page q 1 0")

    def test_pages_stand_in_line(self):
        desk = started()
        desk.execute("question p columns b a | has r a b | has s a")
        self.assertEqual([desk.execute("ask p"), desk.execute("page p 2 0"), desk.execute("page p 2 1")],
                         [["-3 2", "5 1", "7 2"], ["5 1", "-3 2"], ["7 2"]])

    def test_papers(self):
        desk = started()
        house = desk.house()
        boxes = boxes_in(house.answer("q")[1])
        self.assertEqual(len(desk.execute("paper q")), len(boxes))
        self.assertEqual(desk.execute("paper q"), ["r (- 1)", "r (2 -)", "r 1 (- 5)", "r 1 (5 -)", "r 2 (- -3)", "r 2 (-3 7)",
                                                   "r 2 (7 -)", "n 2 7 here"])
        desk.execute("question p has s x | has e y ; table e 1")
        self.assertEqual(desk.execute("paper p"), ["e (- -)"])

    def test_measures_and_points_apart(self):
        desk = started()
        house = desk.house()
        question, tables = house.questions()["q"], house.tables()
        self.assertEqual(desk.execute("measure q"), [" ".join(str(number) for number in measured(question, tables))])
        self.assertEqual(desk.execute("apart q"), [" ".join(str(value) for value in point) for point in apart_points(question, tables)])
        self.assertEqual(desk.execute("looks"), ["0"])

    def test_looks(self):
        for line in ("ask q", "many q", "paper q", "page q 1 0"):
            desk = started()
            desk.execute(line)
            looks = desk.execute("looks")
            self.assertEqual(looks, [str(len(self.run_of(desk)))])
            for again in ("ask q", "many q", "paper q", "page q 1 1", "measure q", "apart q"):
                desk.execute(again)
            self.assertEqual(desk.execute("looks"), looks)
        desk = started()
        self.fails(NoPoint(9), desk, "page q 1 9")
        self.assertEqual(desk.execute("looks"), [str(len(self.run_of(desk)))])

    def run_of(self, desk):
        house = House(desk.house().files())
        house.answer("q")
        return range(house.done())

    def test_no_name_and_no_fit(self):
        desk = started()
        for line in ("ask x", "many x", "paper x", "measure x", "apart x", "page x 1 9", "view x v"):
            self.fails(NoName("x"), desk, line)
        desk.execute("drop s")
        for line in ("ask q", "many q", "paper q", "measure q", "apart q", "page q 1 9", "view q v"):
            self.fails(NotFit(1), desk, line)
        self.assertEqual(desk.execute("looks"), ["0"])

    def test_views(self):
        desk = started()
        self.assertEqual([desk.execute("view q v"), desk.execute("view q v"), desk.execute("tables")[-3:]],
                         [["done"], ["done"], ["table v 2", "1 5", "2 -3"]])
        desk.execute("question c has s x | has t y ; table t 1 ; " + " ; ".join(f"put t {value}" for value in range(101)))
        self.fails(TooMany(200), desk, "view c v")


class TestTelling(Desks):
    def test_tables_questions_and_numbers(self):
        desk = Desk({})
        self.assertEqual([desk.execute(line) for line in ("tables", "questions", "looks", "commits")], [[], [], ["0"], ["0"]])
        desk = started()
        self.assertEqual("\n".join(desk.execute("tables")), show_tables(desk.house().tables()))
        self.assertEqual(desk.execute("tables")[:2], ["table n 2", "7 2"])
        desk.execute("question p columns y x | has both x y | range x 2 9")
        self.assertEqual(desk.execute("questions"), ["p columns y x | has both x y | range x 2 9", QUESTION.removeprefix("question ")])
        self.assertEqual(desk.execute("commits"), ["3"])

    def test_questions_are_made_again_by_their_lines(self):
        desk = started()
        other = Desk({})
        for line in desk.execute("questions"):
            other.execute("question " + line)
        self.assertEqual(other.house().questions(), desk.house().questions())

    def test_texts_of_other_notes(self):
        store = Store({})
        store.commit([("note", "q", "has  r   a\n\n  has s a b "), ("note", "x", "any"), ("note", "p", "\nhas r a")])
        self.assertEqual(Desk(store.files()).execute("questions"), ["p | has r a", "q has r a | | has s a b"])


class TestPower(Desks):
    def test_cut_power_and_mend(self):
        desk = started()
        self.assertEqual(desk.execute("cut 1 lost 0 done 5"), ["done"])
        self.fails(PowerCut(), desk, "put r 3 3")
        self.assertIs(desk.house().has_power(), False)
        self.fails(PowerCut(), desk, "put r 3 3")
        self.fails(PowerCut(), desk, "mend")
        self.fails(PowerCut(), desk, "view q v")
        self.assertEqual([desk.execute("ask q"), desk.execute("commits")], [["1 5", "2 -3"], ["2"]])
        self.assertEqual([desk.execute("power"), desk.execute("mend"), desk.execute("put r 3 3")], [["done"]] * 3)
        self.assertIn("3 3", desk.execute("tables"))

    def test_fates(self):
        # Fates end what is not kept: here the move of the root, behind two syncs.
        for line, commits in [("cut 5", "3"), ("cut 5 done", "3"), ("cut 5 lost", "2"), ("cut 5 0", "2"), ("cut 5 1", "3"),
                              ("cut 5 999999999", "3")]:
            desk = started()
            self.assertEqual(desk.execute(line), ["done"])
            self.fails(PowerCut(), desk, "put s 3")
            self.assertEqual(desk.execute("commits"), [commits], line)

    def test_power_forgets(self):
        desk = started()
        desk.execute("ask q")
        looks = int(desk.execute("looks")[0])
        desk.execute("power")
        desk.execute("ask q")
        self.assertEqual(desk.execute("looks"), [str(2 * looks)])


class TestNoCommand(Desks):
    def test_lines_that_are_none(self):
        desk = started()
        house = desk.house()
        for part in BAD.replace("\n", " | ").split(" | "):
            line = part.replace("\\t", "\t")
            self.fails(NoCommand(), desk, line)
        for line in ("", " ", "    ", "tables\n", "\ntables", "ask q\n", "question q has r a\nhas s a", "put r 1 5\n", "\n", "ask\nq",
                     "table s 1 ;\ndrop s"):
            self.fails(NoCommand(), desk, line)
        self.assertIs(desk.house() == house, True)
        self.assertEqual((desk.execute("looks"), desk.execute("ask q")), (["0"], ["1 5", "2 -3"]))

    def test_numbers_come_first(self):
        desk = started()
        self.fails(NoCommand(), desk, "page x 0 0")
        self.fails(NoCommand(), desk, "put none 1 x")
        self.fails(NoCommand(), desk, "put none 1 ; table r 0")
        self.fails(NoCommand(), desk, "question p has ; drop R")

    def test_any_value(self):
        desk = started()
        for thing in any_values():
            if isinstance(thing, str):
                self.fails(NoCommand(), desk, thing)
            else:
                self.fails(Wrong(0), desk, thing)
            if type(thing) is dict and is_sound(thing):
                self.assertEqual(Desk(thing).execute("tables"), [])
            else:
                with self.assertRaises(Wrong) as caught:
                    Desk(thing)
                self.assertEqual(caught.exception.place, 0)


class TestHouse(Desks):
    def test_a_twin(self):
        desk = started()
        house = desk.house()
        house.commit([("drop", "r")])
        self.assertEqual(desk.execute("ask q"), ["1 5", "2 -3"])
        done = int(desk.execute("looks")[0])
        twin = desk.house()
        self.assertEqual((twin.done(), twin.points("q"), twin.done()), (done, ((1, 5), (2, -3)), done))
        self.assertIs(Desk(desk.house().files()).house() == desk.house(), True)

    def test_what_is_told_is_new(self):
        desk = started()
        for line in ("tables", "questions", "ask q", "commits", "paper q", "cut 99"):
            desk.execute(line).clear()
            self.assertNotEqual(desk.execute(line), [])


if __name__ == "__main__":
    unittest.main()
