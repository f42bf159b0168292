"""The examples of the document, with just the answers shown there."""

import doctest
import pathlib
import unittest

EXAMPLES = pathlib.Path(__file__).resolve().parent / "examples"


class TestExamples(unittest.TestCase):
    def run_stage(self, number, least):
        failed, tried = doctest.testfile(str(EXAMPLES / f"stage{number}.txt"), module_relative=False)
        self.assertEqual(failed, 0)
        self.assertGreaterEqual(tried, least)

    def test_stage_1(self):
        self.run_stage(1, 15)

    def test_stage_2(self):
        self.run_stage(2, 12)

    def test_stage_3(self):
        self.run_stage(3, 16)

    def test_stage_4(self):
        self.run_stage(4, 11)

    def test_stage_5(self):
        self.run_stage(5, 12)

    def test_stage_6(self):
        self.run_stage(6, 13)

    def test_stage_7(self):
        self.run_stage(7, 15)

    def test_stage_8(self):
        self.run_stage(8, 16)

    def test_stage_9(self):
        self.run_stage(9, 13)

    def test_stage_10(self):
        self.run_stage(10, 15)

    def test_stage_11(self):
        self.run_stage(11, 15)

    def test_stage_12(self):
        self.run_stage(12, 9)

    def test_stage_13(self):
        self.run_stage(13, 11)


if __name__ == "__main__":
    unittest.main()
