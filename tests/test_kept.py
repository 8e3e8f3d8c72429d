"""Point 4: what is handed in stays, what is told is new, the same asked has the same answer."""

import copy
import unittest

from shortsteps.changes import grown, keeps_mirrored, keeps_turned, mates, mirrored, turned
from shortsteps.desk import Desk
from shortsteps.errors import NoFour, NoMoves, NoNumber, NoPoint, NoText, StepError
from shortsteps.forms import is_fine, shapes_of, taken_at, takers
from shortsteps.grids import is_point, is_same, is_steps, numbers_of, product, reached, room
from shortsteps.parts import both_have, both_make, flat, is_part, parts_of, times_of
from shortsteps.points import many_of, nearest, nearest_length, up_to
from shortsteps.shapes import (
    is_ahead, is_leading, is_shape, leading, products, room_squared, shape)
from shortsteps.short import is_moves, is_short, least_points, moved, moves_for, short_pair
from shortsteps.texts import read, show
from shortsteps.threes import blunt_four, folded, folds_for, is_blunt, is_four, least_of_three
from shortsteps.turns import behind, is_keeper, keepers, mirrors_many, often, undoing
from tests.things import BIG, PAIRS, STRANGE, THREES, Case

UNIT = ((1, 0), (0, 1))
FOUR = ((1, 0, 0), (0, 1, 0), (0, 0, 1), (-1, -1, -1))
# These may be led by folds: their numbers are not too great.
NARROW = [steps for steps in THREES if all(abs(n) < 1000 for step in steps for n in step)]


def answer(function, *arguments):
    """What a function tells, or the class that it refuses with."""
    try:
        return function(*arguments)
    except StepError as error:
        return type(error)


class HandedInTest(Case):

    def stays(self, function, *arguments):
        before = copy.deepcopy(arguments)
        first = copy.deepcopy(answer(function, *arguments))
        with self.subTest(function=function.__name__, arguments=before):
            self.assertEqual(arguments, before)
            self.assertEqual(answer(function, *arguments), first)
            self.assertEqual(answer(function, *before), first)
            self.assertEqual(arguments, before)

    def test_4_things_of_whatever_kind_stay(self):
        for thing in STRANGE:
            for function in (is_point, is_steps, is_moves, read, room, show, is_short,
                             moves_for, short_pair, least_points):
                self.stays(function, thing)
            self.stays(product, thing, thing)
            self.stays(reached, PAIRS[2], thing)
            self.stays(numbers_of, PAIRS[2], thing)
            self.stays(is_same, PAIRS[2], thing)
            self.stays(moved, PAIRS[2], thing)

    def test_4_things_of_whatever_kind_stay_in_later_stages(self):
        for thing in STRANGE:
            for function in (products, shape, is_shape, room_squared, keepers, mirrors_many,
                             folds_for, blunt_four, least_of_three):
                self.stays(function, thing)
            for function in (leading, is_ahead, is_keeper, is_leading, undoing, often, many_of,
                             up_to, nearest, nearest_length, is_four, is_blunt):
                last = (UNIT,) if function is is_leading else ()
                self.stays(function, thing, thing, *last)
                self.stays(function, thing, UNIT, *last)
                self.stays(function, UNIT, thing, *last)
            for steps in (UNIT, FOUR[:3]):
                self.stays(is_four, thing, steps)
                self.stays(is_blunt, steps, thing)
                self.stays(behind, UNIT, steps, thing)
                self.stays(folded, steps, FOUR, thing)
                self.stays(folded, steps, FOUR, [thing])
                self.stays(folded, steps, thing, thing)

    def test_4_things_of_whatever_kind_stay_in_the_last_stages(self):
        for thing in STRANGE:
            for function in (flat, shapes_of, is_fine, turned, mirrored, keeps_turned,
                             keeps_mirrored, mates):
                self.stays(function, thing)
            for function in (is_part, times_of, both_have, both_make, parts_of, grown, taken_at,
                             takers):
                self.stays(function, thing, thing)
                self.stays(function, thing, UNIT)
                self.stays(function, UNIT, thing)
                self.stays(function, thing, 2)
                self.stays(function, (2, 1, 2), thing)
            before = copy.deepcopy(thing)
            answer(Desk().say, thing)
            self.assertEqual(thing, before)

    def test_4_pairs_stay_in_the_last_stages(self):
        for pair in PAIRS:
            for function in (flat, turned, mirrored, keeps_turned, keeps_mirrored, mates):
                self.stays(function, pair)
            for function in (is_part, times_of, both_have, both_make):
                self.stays(function, pair, PAIRS[2])
                self.stays(function, PAIRS[2], pair)
            self.stays(parts_of, pair, 6)
            self.stays(grown, pair, 6)

    def test_4_steps_stay(self):
        for steps in PAIRS + THREES:
            for function in (is_steps, room, show, is_short, moves_for, short_pair, least_points):
                self.stays(function, steps)
            self.stays(is_same, steps, PAIRS[2])
            self.stays(numbers_of, steps, steps[0])
            self.stays(reached, steps, steps[0])

    def test_4_moves_stay(self):
        for pair in PAIRS:
            for moves in [[], [("turn",)], [("less", 3), ("turn",), ("about",), ("less", -BIG)],
                          moves_for(pair)]:
                self.stays(moved, pair, moves)
                self.stays(is_moves, moves)

    def test_4_folds_stay(self):
        for steps in NARROW:
            four = steps + (tuple(-sum(numbers) for numbers in zip(*steps)),)
            for folds in [[], [(0, 1)], [(2, 3), (3, 2), (1, 0)], folds_for(steps)]:
                self.stays(folded, steps, four, folds)
            self.stays(is_four, list(four), steps)

    def test_4_changed_folds_are_asked_anew(self):
        folds = []
        self.assertEqual(folded(FOUR[:3], FOUR, folds), FOUR)
        folds.append((0, 1))
        told = folded(FOUR[:3], FOUR, folds)
        before = copy.deepcopy(told)
        self.assertEqual(told, ((-1, 0, 0), (0, 1, 0), (1, 0, 1), (0, -1, -1)))
        folds.append((0, 0))
        self.refused(NoMoves, folded, FOUR[:3], FOUR, folds)
        self.assertEqual(told, before)
        folds[:] = [(1, 0)]
        self.assertEqual(
            folded(FOUR[:3], FOUR, folds), ((1, 0, 0), (0, -1, 0), (0, 1, 1), (-1, 0, -1)))

    def test_4_a_changed_thing_is_asked_anew(self):
        thing = [(1, 0), (0, 1)]
        self.assertIs(is_keeper(thing, UNIT), False)
        self.assertIs(is_keeper(tuple(thing), UNIT), True)
        thing[0] = (2, 0)
        self.assertIs(is_keeper(tuple(thing), UNIT), False)
        self.assertIs(is_leading(tuple(thing), UNIT, UNIT), False)
        thing = [2, 1, 2]
        self.assertIs(is_shape(thing), False)
        self.assertIs(is_shape(tuple(thing)), True)

    def test_4_what_is_done_to_moves_later_changes_nothing_told(self):
        moves = [("turn",), ("less", 2)]
        told = moved(PAIRS[2], moves)
        before = copy.deepcopy(told)
        moves.append(("about",))
        self.assertEqual(told, before)
        self.assertEqual(moved(PAIRS[2], [("turn",), ("less", 2)]), before)

    def test_4_a_changed_list_is_asked_anew(self):
        moves = []
        self.assertIs(is_moves(moves), True)
        self.assertEqual(moved(PAIRS[2], moves), ((3, 1), (-2, 4)))
        moves.append(("turn",))
        self.assertIs(is_moves(moves), True)
        self.assertEqual(moved(PAIRS[2], moves), ((-2, 4), (3, 1)))
        moves.append("turn")
        self.assertIs(is_moves(moves), False)
        self.refused(NoMoves, moved, PAIRS[2], moves)
        moves[:] = [("about",)]
        self.assertIs(is_moves(moves), True)
        self.assertEqual(moved(PAIRS[2], moves), ((3, 1), (2, -4)))


class ToldTest(Case):

    def is_new_each_time(self, function, *arguments):
        with self.subTest(function=function.__name__, arguments=arguments):
            told = function(*arguments)
            before = list(told)
            self.assertIsNot(function(*arguments), told)
            told.append("anything")
            told.insert(0, None)
            self.assertEqual(function(*arguments), before)
            told.clear()
            self.assertEqual(function(*arguments), before)
            again = function(*arguments)
            again.reverse()
            again.extend([1, 2, 3])
            self.assertEqual(function(*arguments), before)

    def test_4_a_list_that_was_told_is_the_askers_own(self):
        for pair in PAIRS:
            self.is_new_each_time(moves_for, pair)
            self.is_new_each_time(least_points, pair)
            self.is_new_each_time(keepers, pair)
            for number in (0, 1, 60):
                self.is_new_each_time(up_to, pair, number)
            for point in [(0, 0), (1, 3), (-BIG, 7)]:
                self.is_new_each_time(nearest, pair, point)
        for steps in NARROW + [((999, 1, 0), (1, 0, 0), (3, -998, 1))]:
            self.is_new_each_time(folds_for, steps)
            self.is_new_each_time(least_of_three, steps)

    def test_4_a_list_that_was_told_is_the_askers_own_in_the_last_stages(self):
        for pair in PAIRS:
            for number in (1, 2, 12):
                self.is_new_each_time(parts_of, pair, number)
            for number in (0, 1, 200):
                self.is_new_each_time(taken_at, shape(pair), number)
        for number in (1, 3, 12, 195, 200):
            self.is_new_each_time(shapes_of, number)
            for taken in (1, 2, 4, 200):
                self.is_new_each_time(takers, number, taken)

    def test_4_what_is_done_to_a_list_changes_no_answer_of_the_last_stages(self):
        pair, form = PAIRS[2], (10, 2, 20)

        def answers():
            return (flat(pair), both_have(pair, UNIT), both_make(pair, pair), mates(pair),
                    is_fine(form), parts_of(pair, 4), takers(196, 10), takers(12, 4),
                    taken_at(form, 10), shapes_of(196), shapes_of(12), shape(pair))

        before = copy.deepcopy(answers())
        for told in [parts_of(pair, 4), parts_of(pair, 1), taken_at(form, 10), shapes_of(196),
                     shapes_of(12), takers(196, 10), takers(12, 4)]:
            told[:] = [(9, 9), ((7, 7), (7, 7)), (2, 0, 2)]
        self.assertEqual(answers(), before)
        told = answers()
        for one in told:
            if isinstance(one, list):
                one.clear()
        self.assertEqual(answers(), before)

    def test_4_what_is_done_to_a_list_changes_no_desk(self):
        desk = Desk()
        desk.say("pair 3,1 -2,4")
        before = [desk.say(line) for line in ("least", "near 1,1", "keepers", "flat", "many 10")]
        pair = read(desk.say("told"))
        for told in [least_points(pair), nearest(pair, (1, 1)), keepers(pair), up_to(pair, 10)]:
            told.append((5, 5))
            told.reverse()
        self.assertEqual(
            [desk.say(line) for line in ("least", "near 1,1", "keepers", "flat", "many 10")],
            before)

    def test_4_what_is_done_to_a_list_changes_no_other_answer(self):
        for pair in PAIRS:
            short = short_pair(pair)
            least = least_points(pair)
            moves = moves_for(pair)
            moves.append(("less", 5))
            moves.append("nothing")
            self.assertEqual(short_pair(pair), short)
            self.assertEqual(least_points(pair), least)
            spoilt = least_points(pair)
            spoilt[0] = (99, 99)
            self.assertEqual(short_pair(pair), short)
            self.assertEqual(least_points(short), least)
            self.assertEqual(moves_for(pair), moves[:-2])

    def test_4_what_is_done_to_a_list_changes_no_answer_of_another_kind(self):
        pair = UNIT
        before = (mirrors_many(pair), many_of(pair, 25), nearest_length(pair, (3, 4)))
        for told in [keepers(pair), up_to(pair, 25), up_to(pair, 60), nearest(pair, (3, 4))]:
            told[:] = [((7, 7), (7, 7)), (9, 9)]
        self.assertEqual(
            (mirrors_many(pair), many_of(pair, 25), nearest_length(pair, (3, 4))), before)
        for steps in NARROW:
            four, least = blunt_four(steps), least_of_three(steps)
            folds_for(steps).append((0, 1))
            spoilt = least_of_three(steps)
            spoilt[0] = (0, 0, 0)
            self.assertEqual(blunt_four(steps), four)
            self.assertEqual(least_of_three(steps), least)
            self.assertEqual(least_of_three(four[:3]), least)

    def test_4_a_later_refusal_changes_nothing(self):
        pair, steps = PAIRS[2], FOUR[:3]

        def answers():
            return (shape(pair), leading(pair, pair), keepers(pair), up_to(pair, 60),
                    nearest(pair, (1, 1)), folds_for(steps), blunt_four(steps),
                    least_of_three(steps))

        before = answers()
        self.refused(NoNumber, up_to, pair, 61)
        self.refused(NoPoint, nearest, pair, (1, 1, 1))
        self.refused(NoFour, folded, steps, FOUR[:3], [(0, 1)])
        self.refused(NoMoves, folded, steps, FOUR, [(0, 1), (1, 1)])
        self.assertEqual(answers(), before)

    def test_4_a_refusal_changes_nothing(self):
        pair = PAIRS[2]
        before = (moves_for(pair), short_pair(pair), least_points(pair), show(pair))
        self.refused(NoMoves, moved, pair, [("turn",), ("less", 1), None])
        self.refused(NoText, read, "3,1 -2,4 ")
        self.assertEqual(
            (moves_for(pair), short_pair(pair), least_points(pair), show(pair)), before)
        self.assertEqual(read("3,1 -2,4"), pair)


if __name__ == "__main__":
    unittest.main()
