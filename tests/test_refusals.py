"""Point 5: what is refused, with which class, and in which order."""

import unittest

from shortsteps.errors import NoMoves, NoNumber, NoPair, NoPoint, NoSteps
from shortsteps.grids import is_same, numbers_of, product, reached, room
from shortsteps.short import is_short, least_points, moved, moves_for, short_pair
from shortsteps.texts import show
from tests.things import BIG, PAIRS, POINTS, STRANGE, THREES, Case

PAIR = ((3, 1), (-2, 4))
THREE = ((1, 1, 0), (1, 0, 1), (0, 1, 1))
NO_MOVES = [
    None, (), (("turn",),), ("turn",), [["turn"]], [("less",)], [("less", True)], ["turn"],
    [("less", None)], [("turn",), ("turn", 1)], [("more", 1)], "turn", {}, 3, [()], [None]]


class StepsTest(Case):

    def test_11_no_steps(self):
        for thing in STRANGE + POINTS:
            self.refused(NoSteps, room, thing)

    def test_12_no_steps(self):
        for thing in STRANGE + POINTS:
            self.refused(NoSteps, reached, thing, (1, 2))
            self.refused(NoSteps, numbers_of, thing, (1, 2))

    def test_13_no_steps(self):
        for thing in STRANGE + POINTS:
            for steps in (PAIR, THREE):
                self.refused(NoSteps, is_same, thing, steps)
                self.refused(NoSteps, is_same, steps, thing)
            self.refused(NoSteps, is_same, thing, thing)

    def test_14_no_steps(self):
        for thing in STRANGE + POINTS:
            self.refused(NoSteps, show, thing)

    def test_5_steps_ahead_of_all_else(self):
        for thing in [None, (1, 2), ((1, 2), (2, 4)), [(1, 0), (0, 1)], ((1, 0), (0, True))]:
            for other in [None, True, "x", [1, 2], (1,), (1, True), (1, 2, 3), ()]:
                self.refused(NoSteps, reached, thing, other)
                self.refused(NoSteps, numbers_of, thing, other)
                self.refused(NoSteps, is_same, thing, other)


class PairTest(Case):

    def test_21_to_24_no_pair(self):
        for thing in STRANGE + POINTS:
            for function in (is_short, moves_for, short_pair, least_points):
                self.refused(NoPair, function, thing)
            self.refused(NoPair, moved, thing, [("turn",)])
            self.refused(NoPair, moved, thing, [])

    def test_5_three_steps_are_no_pair(self):
        for thing in THREES:
            for function in (is_short, moves_for, short_pair, least_points):
                self.refused(NoPair, function, thing)
            self.refused(NoPair, moved, thing, [("turn",)])
            self.refused(NoPair, moved, thing, [])

    def test_5_a_pair_ahead_of_all_else(self):
        for thing in [None, (1, 2), ((1, 2), (2, 4)), [(1, 0), (0, 1)], ((1, 0), (0, True)), THREE]:
            for moves in NO_MOVES:
                self.refused(NoPair, moved, thing, moves)

    def test_22_no_moves(self):
        for pair in PAIRS:
            for moves in NO_MOVES:
                self.refused(NoMoves, moved, pair, moves)

    def test_22_no_moves_of_whatever_kind(self):
        for thing in STRANGE + POINTS + PAIRS + THREES:
            if thing != []:
                self.refused(NoMoves, moved, PAIR, thing)
            if thing not in [("turn",), ("less", 1)]:
                self.refused(NoMoves, moved, PAIR, [thing])
                self.refused(NoMoves, moved, PAIR, [("about",), thing])


class PointTest(Case):

    def test_11_no_point(self):
        for thing in STRANGE + PAIRS + THREES:
            self.refused(NoPoint, product, thing, (1, 2))
            self.refused(NoPoint, product, thing, (1, 2, 3))
            self.refused(NoPoint, product, (1, 2), thing)
            self.refused(NoPoint, product, (1, 2, 3), thing)
            self.refused(NoPoint, product, thing, thing)

    def test_11_a_second_point_of_another_width(self):
        self.refused(NoPoint, product, (1, 2), (1, 2, 3))
        self.refused(NoPoint, product, (1, 2, 3), (1, 2))
        self.refused(NoPoint, product, (0, 0), (0, 0, 0))

    def test_12_no_point(self):
        for thing in STRANGE + PAIRS + THREES:
            self.refused(NoPoint, numbers_of, PAIR, thing)
            self.refused(NoPoint, numbers_of, THREE, thing)

    def test_12_a_point_of_another_width_than_the_steps(self):
        for point in [(0, 0, 0), (3, 1, 0), (BIG, 1, 2)]:
            self.refused(NoPoint, numbers_of, PAIR, point)
        for point in [(0, 0), (1, 1), (BIG, 1)]:
            self.refused(NoPoint, numbers_of, THREE, point)


class NumbersTest(Case):

    def test_12_no_numbers(self):
        for thing in STRANGE + PAIRS + THREES:
            self.refused(NoNumber, reached, PAIR, thing)
            self.refused(NoNumber, reached, THREE, thing)

    def test_12_not_as_many_as_steps(self):
        for numbers in [(), (1,), (1, 2, 3), (0, 0, 0), (1, 2, 3, 4)]:
            self.refused(NoNumber, reached, PAIR, numbers)
        for numbers in [(), (1,), (1, 2), (0, 0), (1, 2, 3, 4)]:
            self.refused(NoNumber, reached, THREE, numbers)

    def test_12_true_and_false_are_no_numbers(self):
        for numbers in [(True, 1), (1, False), (True, False)]:
            self.refused(NoNumber, reached, PAIR, numbers)
        for numbers in [(True, 1, 1), (1, False, 1), (1, 1, True)]:
            self.refused(NoNumber, reached, THREE, numbers)


if __name__ == "__main__":
    unittest.main()
