"""Point 14: steps written and read."""

import itertools
import unittest

from shortsteps.errors import NoText
from shortsteps.short import moved
from shortsteps.texts import read, show
from tests.things import BIG, PAIRS, STRANGE, THREES, Case, small_pairs, small_threes

WRITTEN = [
    (((3, 1), (-2, 4)), "3,1 -2,4"),
    (((1, 0), (0, 1)), "1,0 0,1"),
    (((0, -10), (10, 100)), "0,-10 10,100"),
    (((1, 0, 0), (0, 1, 0), (0, 0, 1)), "1,0,0 0,1,0 0,0,1"),
    (((-1, 2, -3), (40, 0, 5), (7, -80, 9)), "-1,2,-3 40,0,5 7,-80,9"),
    (((BIG, 0), (0, -1)), "9" * 30 + ",0 0,-1"),
    (((-10 ** 29, 1), (1, 0)), "-1" + "0" * 29 + ",1 1,0"),
]

UNWRITTEN = [
    "", " ", ",", "-", "0", "1", "1 2", "1 0 0 1", "1,0", "1,0 ", " 1,0", "1,0 0,1 ", " 1,0 0,1",
    "1,0  0,1", "1,0\n0,1", "1,0\t0,1", "1,0 0,1\n", "\n1,0 0,1", "1,0\r0,1", "1,0\x0b0,1",
    "1,0\x1c0,1", "1,0,0,1", "1,0;0,1", "1,0,0 0,1", "1,0 0,1,0", "1,0 0,1 1,1",
    "1,0,0 0,1,0", "1,0,0 0,1,0 0,1", "1,0,0 0,1,0 0,0,1 1,1,1",
    "1,0,0,0 0,1,0,0 0,0,1,0 0,0,0,1", "1, 0 0,1", "1 ,0 0,1", ",0 0,1", "1, 0,1",
    "1,,0 0,1", "1,0, 0,1", ",1,0 0,1", "1,0 0,1,", "1,0 ,0,1",
    "+1,0 0,1", "1,0 0,+1", "01,0 0,1", "1,0 0,01", "-01,0 0,1", "1,00 0,1", "1,-0 0,1",
    "-0,1 1,0", "1,0 0,-00", "--1,0 0,1", "-,1 1,0", "1-,0 0,1", "1-1,0 0,1", "- 1,0 0,1",
    "1_0,0 0,1", "1.0,0 0,1", "1.,0 0,1", "1e1,0 0,1", "0x1,0 0,1", "a,b c,d", "1,0 0,x",
    "1,0 0,1 x", "(1,0) (0,1)", "((1, 0), (0, 1))", "1,0 and 0,1", "none", "1,0 0,1#",
    "1,2 2,4", "0,0 0,0", "1,0 0,0", "1,2,3 4,5,6 7,8,9", "0,0,0 0,1,0 0,0,1",
    "True,0 0,1", "1,False 0,1", "None,1 1,0",
]


class TextsTest(Case):

    def test_14_steps_are_written(self):
        for steps, text in WRITTEN:
            with self.subTest(text=text):
                self.assertEqual(show(steps), text)
                self.is_plain(show(steps), str)

    def test_14_what_is_written_is_read(self):
        for steps, text in WRITTEN:
            with self.subTest(text=text):
                self.assertEqual(read(text), steps)

    def test_14_what_is_read_is_steps(self):
        for text in ("3,1 -2,4", "1,0,0 0,1,0 0,0,1"):
            steps = read(text)
            self.is_plain(steps, tuple)
            for point in steps:
                self.is_plain(point, tuple)
                for number in point:
                    self.is_plain(number, int)

    def test_14_there_and_back(self):
        for steps in itertools.chain(small_pairs(-2, 2), small_threes(331), PAIRS, THREES):
            self.assertEqual(read(show(steps)), steps)

    def test_14_noughts_within_great_numbers(self):
        for many in range(25, 70):
            for number in (10 ** many, 10 ** many + 1, 10 ** many - 1, -10 ** many, 5 - 10 ** many):
                steps = ((number, 1), (1, 0))
                self.assertEqual(show(steps), str(number) + ",1 1,0")
                self.assertEqual(read(str(number) + ",1 1,0"), steps)

    def test_3_what_was_told_is_written_whatever_its_size(self):
        for many in (20, 400):
            pair = moved(((1, 0), (0, 1)), [("less", -BIG), ("turn",)] * many)
            text = show(pair)
            self.assertGreater(len(text), 4 * 29 * many - 200)
            self.assertEqual(text.count(" "), 1)
            self.assertEqual(text.count(","), 2)
            self.assertTrue(read(text) == pair)

    def test_14_what_is_not_written_so_is_refused(self):
        for text in UNWRITTEN:
            self.refused(NoText, read, text)

    def test_14_what_is_no_text_is_refused(self):
        for thing in STRANGE + PAIRS + THREES + [["1,0 0,1"], ("1,0 0,1",), {"1,0 0,1": 1}]:
            self.refused(NoText, read, thing)


if __name__ == "__main__":
    unittest.main()
