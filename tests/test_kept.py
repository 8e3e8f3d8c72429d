"""Point 4: what is handed in stays, what is told is new, the same asked has the same answer."""

import copy
import unittest

from shortsteps.errors import NoMoves, NoText, StepError
from shortsteps.grids import is_point, is_same, is_steps, numbers_of, product, reached, room
from shortsteps.short import is_moves, is_short, least_points, moved, moves_for, short_pair
from shortsteps.texts import read, show
from tests.things import BIG, PAIRS, STRANGE, THREES, Case


def answer(function, *arguments):
    """What a function tells, or the class that it refuses with."""
    try:
        return function(*arguments)
    except StepError as error:
        return type(error)


class HandedInTest(Case):

    def stays(self, function, *arguments):
        before = copy.deepcopy(arguments)
        first = copy.deepcopy(answer(function, *arguments))
        with self.subTest(function=function.__name__, arguments=before):
            self.assertEqual(arguments, before)
            self.assertEqual(answer(function, *arguments), first)
            self.assertEqual(answer(function, *before), first)
            self.assertEqual(arguments, before)

    def test_4_things_of_whatever_kind_stay(self):
        for thing in STRANGE:
            for function in (is_point, is_steps, is_moves, read, room, show, is_short,
                             moves_for, short_pair, least_points):
                self.stays(function, thing)
            self.stays(product, thing, thing)
            self.stays(reached, PAIRS[2], thing)
            self.stays(numbers_of, PAIRS[2], thing)
            self.stays(is_same, PAIRS[2], thing)
            self.stays(moved, PAIRS[2], thing)

    def test_4_steps_stay(self):
        for steps in PAIRS + THREES:
            for function in (is_steps, room, show, is_short, moves_for, short_pair, least_points):
                self.stays(function, steps)
            self.stays(is_same, steps, PAIRS[2])
            self.stays(numbers_of, steps, steps[0])
            self.stays(reached, steps, steps[0])

    def test_4_moves_stay(self):
        for pair in PAIRS:
            for moves in [[], [("turn",)], [("less", 3), ("turn",), ("about",), ("less", -BIG)],
                          moves_for(pair)]:
                self.stays(moved, pair, moves)
                self.stays(is_moves, moves)

    def test_4_what_is_done_to_moves_later_changes_nothing_told(self):
        moves = [("turn",), ("less", 2)]
        told = moved(PAIRS[2], moves)
        before = copy.deepcopy(told)
        moves.append(("about",))
        self.assertEqual(told, before)
        self.assertEqual(moved(PAIRS[2], [("turn",), ("less", 2)]), before)

    def test_4_a_changed_list_is_asked_anew(self):
        moves = []
        self.assertIs(is_moves(moves), True)
        self.assertEqual(moved(PAIRS[2], moves), ((3, 1), (-2, 4)))
        moves.append(("turn",))
        self.assertIs(is_moves(moves), True)
        self.assertEqual(moved(PAIRS[2], moves), ((-2, 4), (3, 1)))
        moves.append("turn")
        self.assertIs(is_moves(moves), False)
        self.refused(NoMoves, moved, PAIRS[2], moves)
        moves[:] = [("about",)]
        self.assertIs(is_moves(moves), True)
        self.assertEqual(moved(PAIRS[2], moves), ((3, 1), (2, -4)))


class ToldTest(Case):

    def is_new_each_time(self, function, pair):
        with self.subTest(function=function.__name__, pair=pair):
            told = function(pair)
            before = list(told)
            self.assertIsNot(function(pair), told)
            told.append("anything")
            told.insert(0, None)
            self.assertEqual(function(pair), before)
            told.clear()
            self.assertEqual(function(pair), before)
            again = function(pair)
            again.reverse()
            again.extend([1, 2, 3])
            self.assertEqual(function(pair), before)

    def test_4_a_list_that_was_told_is_the_askers_own(self):
        for pair in PAIRS:
            self.is_new_each_time(moves_for, pair)
            self.is_new_each_time(least_points, pair)

    def test_4_what_is_done_to_a_list_changes_no_other_answer(self):
        for pair in PAIRS:
            short = short_pair(pair)
            least = least_points(pair)
            moves = moves_for(pair)
            moves.append(("less", 5))
            moves.append("nothing")
            self.assertEqual(short_pair(pair), short)
            self.assertEqual(least_points(pair), least)
            spoilt = least_points(pair)
            spoilt[0] = (99, 99)
            self.assertEqual(short_pair(pair), short)
            self.assertEqual(least_points(short), least)
            self.assertEqual(moves_for(pair), moves[:-2])

    def test_4_a_refusal_changes_nothing(self):
        pair = PAIRS[2]
        before = (moves_for(pair), short_pair(pair), least_points(pair), show(pair))
        self.refused(NoMoves, moved, pair, [("turn",), ("less", 1), None])
        self.refused(NoText, read, "3,1 -2,4 ")
        self.assertEqual(
            (moves_for(pair), short_pair(pair), least_points(pair), show(pair)), before)
        self.assertEqual(read("3,1 -2,4"), pair)


if __name__ == "__main__":
    unittest.main()
