"""Points 71 to 75: flat pairs, parts of grids, what two grids have and what they make."""

import itertools
import math
import unittest

from shortsteps.errors import NoNumber, NoPair, NoPart
from shortsteps.grids import is_same
from shortsteps.parts import both_have, both_make, flat, is_part, parts_of, times_of
from shortsteps.short import moved, short_pair
from tests.things import (
    BIG, GREAT_WAYS, PAIRS, POINTS, STRANGE, THREES, WAYS, Case, changed, det, grid_points,
    is_int, lies_in, remainders, small_pairs)

UNIT = ((1, 0), (0, 1))

# Numbers of thirty figures and a little less, of no shape in particular.
GREAT = [
    ((314159265358979323846264338327, -271828182845904523536028747135),
     (141421356237309504880168872420, 577215664901532860606512090082)),
    ((-161803398874989484820458683436, 6), (0, 173205080756887729352744634150)),
    ((BIG, BIG - 1), (BIG - 2, BIG)), ((-BIG, 3), (10 ** 29 + 1, -BIG + 5)),
    ((6 * 10 ** 28, 0), (0, -15 * 10 ** 27)), ((0, -9 * 10 ** 28), (14 * 10 ** 28, 7)),
]

FUNCTIONS = [is_part, times_of, both_have, both_make]


def inside(point, pair):
    """Whether a point is one of a pair's grid, found apart from the program."""
    (a, b), (c, d) = pair
    (x, y), whole = point, a * d - b * c
    return (x * d - y * c) % whole == 0 and (a * y - b * x) % whole == 0


def flat_by_looking(is_in, block):
    """The flat pair of a grid that repeats after a block, by looking at its points."""
    side = range(1, block + 1)
    d = next(y for y in side if is_in((0, y)))
    return next(((x, y), (0, d)) for x in side for y in range(d) if is_in((x, y)))


def flat_of_pair(pair):
    return flat_by_looking(lambda point: inside(point, pair), abs(det(pair)))


def is_flat(pair):
    """Whether a pair is a flat one, by the words of point 71."""
    (a, b), (nought, d) = pair
    return nought == 0 and a >= 1 and d >= 1 and 0 <= b < d


def flat_pairs(room):
    """All flat pairs of a room, rising, by going through all numbers."""
    return [
        ((a, b), (0, d)) for a in range(1, room + 1) for b in range(room)
        for d in range(b + 1, room + 1) if a * d == room]


def is_inside(one, other):
    """Whether a pair's steps are points of the other one's grid, apart from the program."""
    return all(inside(step, other) for step in one)


class PartsCase(Case):

    def is_flat_pair(self, told):
        self.is_plain(told, tuple)
        self.assertEqual(len(told), 2)
        for step in told:
            self.is_plain(step, tuple)
            self.assertEqual([type(number) for number in step], [int, int])
        self.assertTrue(is_flat(told), told)


class FlatTest(PartsCase):

    def test_71_flat_pairs(self):
        for pair, told in [
                (UNIT, UNIT), (((0, 1), (1, 0)), UNIT), (((5, 8), (3, 5)), UNIT),
                (((3, 1), (-2, 4)), ((1, 5), (0, 14))), (((2, 0), (1, 1)), ((1, 1), (0, 2))),
                (((-1, 0), (0, -1)), UNIT), (((0, -7), (4, 2)), ((4, 2), (0, 7))),
                (((2, 0), (0, 3)), ((2, 0), (0, 3))), (((0, 3), (-2, 0)), ((2, 0), (0, 3))),
                (((2, 5), (0, 3)), ((2, 2), (0, 3))), (((2, -1), (0, 3)), ((2, 2), (0, 3))),
                (((-2, 1), (0, -3)), ((2, 2), (0, 3))), (((0, 3), (2, 3)), ((2, 0), (0, 3))),
                (((1, 0), (BIG, 1)), UNIT), (((1, BIG), (0, 1)), UNIT),
                (((1, -1), (0, BIG)), ((1, BIG - 1), (0, BIG))),
                (((BIG, 0), (0, BIG)), ((BIG, 0), (0, BIG))),
                (((BIG, BIG), (BIG, -BIG)), ((BIG, BIG), (0, 2 * BIG)))]:
            with self.subTest(pair=pair):
                self.assertEqual(flat(pair), told)
                self.is_flat_pair(flat(pair))

    def test_71_b_nought_and_b_as_d_less_one(self):
        for a, d in itertools.product((1, 2, 5, BIG), (1, 2, 3, 8, BIG)):
            for b in (0, d - 1):
                told = ((a, b), (0, d))
                for pair in [
                        told, ((0, d), (a, b)), ((-a, -b), (0, d)), ((a, b + d), (0, -d)),
                        ((a, b - d), (0, d)), ((a, b + 7 * d), (a, b + 8 * d)),
                        ((3 * a, 3 * b + d), (-a, -b)), ((-a, d - b), (2 * a, 2 * b - d))]:
                    with self.subTest(pair=pair):
                        self.assertEqual(flat(pair), told)

    def test_71_small_pairs_by_looking_at_the_points(self):
        for pair in small_pairs(-3, 3):
            told = flat(pair)
            self.assertEqual(told, flat_of_pair(pair), pair)
            self.is_flat_pair(told)

    def test_71_there_is_just_one(self):
        for pair in itertools.islice(small_pairs(-3, 3), 0, None, 13):
            room = abs(det(pair))
            grid = remainders(pair)
            same = [one for one in flat_pairs(room) if remainders(one) == grid]
            self.assertEqual([flat(pair)], same, pair)
            for one in same:
                self.assertEqual(flat(one), one)

    def test_71_the_same_for_all_pairs_of_a_grid(self):
        for pair in itertools.islice(small_pairs(-3, 3), 0, None, 29):
            told = flat_of_pair(pair)
            for way in WAYS + GREAT_WAYS:
                great = changed(pair, way)
                self.assertEqual(flat(great), told, great)

    def test_71_numbers_of_thirty_figures(self):
        for pair in GREAT + PAIRS:
            told = flat(pair)
            self.is_flat_pair(told)
            # As great a room, and each step of the one made by the other one's.
            self.assertEqual(abs(det(told)), abs(det(pair)))
            self.assertTrue(is_inside(told, pair), pair)
            self.assertTrue(is_inside(pair, told), pair)
            # The first number is what divides those of both steps.
            self.assertEqual(told[0][0], math.gcd(pair[0][0], pair[1][0]))
            for way in WAYS + GREAT_WAYS:
                self.assertEqual(flat(changed(pair, way)), told)

    def test_3_pairs_of_whatever_size(self):
        for start in [UNIT, ((4, 0), (2, 5)), ((3, 1), (-2, 4))]:
            great = moved(start, [("less", -BIG), ("turn",)] * 20)
            self.assertGreater(great[0][0].bit_length(), 1900)
            self.assertEqual(flat(great), flat_of_pair(start))
            self.assertEqual(flat(flat(great)), flat_of_pair(start))
        for pair in GREAT:
            wide = tuple(tuple(number * BIG ** 3 for number in step) for step in pair)
            (a, b), (nought, d) = flat(pair)
            more = BIG ** 3
            self.assertEqual(flat(wide), ((a * more, b * more), (nought, d * more)))

    def test_71_no_pair(self):
        for thing in STRANGE + POINTS + THREES:
            self.refused(NoPair, flat, thing)


class PartTest(PartsCase):

    def test_72_parts_and_how_many_times(self):
        for one, other, times in [
                (UNIT, UNIT, 1), (((2, 0), (0, 1)), UNIT, 2), (((3, 1), (-2, 4)), UNIT, 14),
                (((5, 8), (3, 5)), UNIT, 1), (UNIT, ((5, 8), (3, 5)), 1),
                (((2, 0), (0, 2)), ((2, 0), (1, 1)), 2), (((2, 0), (1, 1)), ((1, 1), (1, -1)), 1),
                (((4, 0), (0, 6)), ((2, 0), (0, 3)), 4), (((BIG, 0), (0, BIG)), UNIT, BIG * BIG),
                (((BIG, 0), (0, BIG)), ((0, BIG), (1, 0)), BIG),
                (((6, 2), (-4, 8)), ((3, 1), (-2, 4)), 4)]:
            with self.subTest(one=one, other=other):
                self.assertIs(is_part(one, other), True)
                self.assertEqual(times_of(one, other), times)
                self.is_plain(times_of(one, other), int)

    def test_72_no_parts(self):
        for one, other in [
                (UNIT, ((2, 0), (0, 1))), (((2, 0), (0, 1)), ((1, 0), (0, 2))),
                (((2, 0), (1, 1)), ((2, 0), (0, 2))), (((2, 0), (0, 3)), ((3, 0), (0, 2))),
                (((4, 0), (0, 1)), ((2, 0), (0, 2))), (((3, 1), (-2, 4)), ((6, 2), (-4, 8))),
                # One step of the one is a point of the other one's grid.
                (((2, 0), (1, 3)), ((2, 0), (0, 3))), (((1, 3), (2, 0)), ((2, 0), (0, 3))),
                # The room is great enough, and the same, for a part.
                (((1, 0), (0, 4)), ((2, 0), (0, 2))), (((1, 1), (0, 4)), ((1, 3), (0, 4))),
                (UNIT, ((BIG, 0), (0, BIG))), (((BIG, 0), (0, BIG)), ((BIG, 0), (1, BIG)))]:
            with self.subTest(one=one, other=other):
                self.assertIs(is_part(one, other), False)
                self.refused(NoPart, times_of, one, other)

    def test_72_small_pairs_by_looking_at_the_points(self):
        pairs = list(itertools.islice(small_pairs(-3, 3), 0, None, 43))
        points = [set(grid_points(pair, 6)) for pair in pairs]
        seen = {}
        for (one, these), (other, those) in itertools.product(zip(pairs, points), repeat=2):
            # The square about nought holds both steps of each pair.
            told = these <= those
            seen[(told, those <= these)] = True
            self.assertIs(is_part(one, other), told, (one, other))
            if told:
                self.assertEqual(times_of(one, other), abs(det(one)) // abs(det(other)))
                self.assertEqual(abs(det(one)) % abs(det(other)), 0)
            else:
                self.refused(NoPart, times_of, one, other)
        # A part, the same grid, the greater one, and two beside one another.
        self.assertEqual(len(seen), 4)

    def test_72_so_many_points_of_the_other_grid_for_one(self):
        for one, other in [
                (((4, 0), (2, 2)), ((2, 0), (0, 1))), (((3, 3), (-3, 3)), ((3, 0), (0, 3))),
                (((2, 4), (-6, 2)), ((1, 2), (-1, 5))), (((6, 2), (-4, 8)), ((3, 1), (-2, 4)))]:
            block = abs(det(one))
            square = list(itertools.product(range(block), repeat=2))
            ours = len([point for point in square if inside(point, one)])
            theirs = len([point for point in square if inside(point, other)])
            self.assertEqual(times_of(one, other), theirs // ours)

    def test_72_great_steps_of_small_grids(self):
        part, whole, beside = ((6, 2), (-4, 8)), ((3, 1), (-2, 4)), ((2, 0), (0, 7))
        for one, other in itertools.product(WAYS + GREAT_WAYS, repeat=2):
            self.assertIs(is_part(changed(part, one), changed(whole, other)), True)
            self.assertEqual(times_of(changed(part, one), changed(whole, other)), 4)
            self.assertIs(is_part(changed(whole, one), changed(part, other)), False)
            self.assertIs(is_part(changed(whole, one), changed(whole, other)), True)
            self.assertIs(is_part(changed(beside, one), changed(whole, other)), False)
            self.refused(NoPart, times_of, changed(whole, one), changed(beside, other))

    def test_72_numbers_of_thirty_figures(self):
        for pair in GREAT:
            for way, times in [
                    (((1, 0), (0, 1)), 1), (((2, 1), (-1, 3)), 7), (((0, 5), (5, 0)), 25),
                    (((BIG, 1), (1, -BIG)), BIG * BIG + 1)]:
                part = changed(pair, way)
                self.assertIs(is_part(part, pair), True)
                self.assertEqual(times_of(part, pair), times)
                self.assertIs(is_part(pair, part), times == 1)
            (a, b), second = pair
            self.assertIs(is_part(((a, b + 1), second), pair), inside((0, 1), pair))

    def test_3_parts_of_whatever_size(self):
        great = moved(((6, 2), (-4, 8)), [("less", -BIG), ("turn",)] * 20)
        self.assertIs(is_part(great, ((3, 1), (-2, 4))), True)
        self.assertEqual(times_of(great, ((3, 1), (-2, 4))), 4)
        self.assertIs(is_part(((3, 1), (-2, 4)), great), False)


class PartsTest(PartsCase):

    def test_73_parts(self):
        for pair, number, told in [
                (UNIT, 1, [UNIT]),
                (UNIT, 2, [((1, 0), (0, 2)), ((1, 1), (0, 2)), ((2, 0), (0, 1))]),
                (UNIT, 3, [((1, 0), (0, 3)), ((1, 1), (0, 3)), ((1, 2), (0, 3)),
                           ((3, 0), (0, 1))]),
                (((3, 1), (-2, 4)), 1, [((1, 5), (0, 14))]),
                (((2, 0), (1, 1)), 2, [((1, 1), (0, 4)), ((1, 3), (0, 4)), ((2, 0), (0, 2))]),
                (((0, -3), (2, 0)), 2, [((2, 0), (0, 6)), ((2, 3), (0, 6)), ((4, 0), (0, 3))])]:
            with self.subTest(pair=pair, number=number):
                now = parts_of(pair, number)
                self.assertEqual(now, told)
                self.is_plain(now, list)
                for part in now:
                    self.is_flat_pair(part)

    def test_73_how_many(self):
        for number in range(1, 13):
            told = sum(k for k in range(1, number + 1) if number % k == 0)
            for pair in [UNIT, ((3, 1), (-2, 4)), ((2, 0), (0, 2))] + GREAT:
                parts = parts_of(pair, number)
                self.assertEqual(len(parts), told)
                self.assertEqual(parts, sorted(set(parts)))

    def test_73_small_pairs_by_going_through_all_flat_pairs(self):
        for number in range(1, 13):
            for pair in itertools.islice(small_pairs(-2, 2), number, None, 19):
                room = abs(det(pair)) * number
                told = [one for one in flat_pairs(room) if is_inside(one, pair)]
                self.assertEqual(parts_of(pair, number), told, (pair, number))

    def test_73_great_steps_of_the_same_grid(self):
        for pair in [((1, 0), (0, 1)), ((2, 0), (1, 2)), ((3, 1), (-2, 4))]:
            for number in (1, 2, 6, 12):
                room = abs(det(pair)) * number
                told = [one for one in flat_pairs(room) if is_inside(one, pair)]
                for way in WAYS + GREAT_WAYS:
                    self.assertEqual(parts_of(changed(pair, way), number), told)

    def test_73_numbers_of_thirty_figures(self):
        for pair in GREAT:
            for number in (1, 7, 12):
                for part in parts_of(pair, number):
                    self.is_flat_pair(part)
                    self.assertTrue(is_inside(part, pair))
                    self.assertEqual(abs(det(part)), number * abs(det(pair)))

    def test_3_parts_that_were_told_handed_in_again(self):
        for part in parts_of(((3, 1), (-2, 4)), 6):
            self.assertIs(is_part(part, ((3, 1), (-2, 4))), True)
            for one in parts_of(part, 2):
                self.assertEqual(times_of(one, ((3, 1), (-2, 4))), 12)
                self.assertIn(one, parts_of(((3, 1), (-2, 4)), 12))
        great = moved(((2, 0), (1, 1)), [("less", -BIG), ("turn",)] * 15)
        self.assertEqual(parts_of(great, 2), parts_of(((2, 0), (1, 1)), 2))
        self.assertEqual(parts_of(short_pair(great), 12), parts_of(great, 12))

    def test_73_no_number(self):
        others = [0, 13, 14, -1, -12, 24, 10 ** 6, True, False, [1], (1,), "1", None]
        for thing in STRANGE + POINTS + PAIRS + THREES + others:
            if not is_int(thing, 1, 7):
                for pair in [UNIT, ((3, 1), (-2, 4)), ((BIG, 0), (0, BIG))]:
                    self.refused(NoNumber, parts_of, pair, thing)

    def test_5_no_pair_ahead_of_no_number(self):
        for thing in STRANGE + POINTS + THREES:
            for number in [1, 12, 0, 13, -1, True, None, "1", thing]:
                self.refused(NoPair, parts_of, thing, number)


class BothTest(PartsCase):

    def test_74_both(self):
        for one, other, have, make in [
                (UNIT, UNIT, UNIT, UNIT),
                (((2, 0), (0, 1)), ((1, 0), (0, 2)), ((2, 0), (0, 2)), UNIT),
                (((2, 0), (0, 3)), ((3, 0), (0, 2)), ((6, 0), (0, 6)), UNIT),
                (((4, 0), (0, 6)), ((6, 0), (0, 4)), ((12, 0), (0, 12)), ((2, 0), (0, 2))),
                (((3, 1), (-2, 4)), UNIT, ((1, 5), (0, 14)), UNIT),
                (((2, 0), (1, 1)), ((2, 0), (0, 2)), ((2, 0), (0, 2)), ((1, 1), (0, 2))),
                (((1, 1), (0, 4)), ((1, 3), (0, 4)), ((2, 2), (0, 4)), ((1, 1), (0, 2))),
                (((5, 8), (3, 5)), ((-1, 0), (0, -1)), UNIT, UNIT),
                (((2, 1), (-1, 2)), ((1, 2), (-2, 1)), ((5, 0), (0, 5)), UNIT),
                (((BIG, 0), (0, 1)), ((1, 0), (0, BIG)), ((BIG, 0), (0, BIG)), UNIT)]:
            with self.subTest(one=one, other=other):
                for pairs in [(one, other), (other, one)]:
                    self.assertEqual(both_have(*pairs), have)
                    self.assertEqual(both_make(*pairs), make)
                self.is_flat_pair(both_have(one, other))
                self.is_flat_pair(both_make(one, other))

    def test_74_small_pairs_what_both_have_by_looking_at_the_points(self):
        pairs = list(itertools.islice(small_pairs(-3, 3), 0, None, 31))
        for one, other in itertools.product(pairs, repeat=2):
            told = flat_by_looking(
                lambda point: inside(point, one) and inside(point, other),
                abs(det(one) * det(other)))
            self.assertEqual(both_have(one, other), told, (one, other))

    def test_74_small_pairs_what_both_make_by_looking_at_the_points(self):
        pairs = list(itertools.islice(small_pairs(-2, 3), 0, None, 31))
        for one, other in itertools.product(pairs, repeat=2):
            block, ours = remainders(one)
            steps = itertools.product(range(block), repeat=2)
            theirs = [changed(other, (numbers,))[0] for numbers in steps]
            made = frozenset(
                ((a + x) % block, (b + y) % block) for a, b in ours for x, y in theirs)
            told = flat_by_looking(lambda point: lies_in(point, (block, made)), block)
            self.assertEqual(both_make(one, other), told, (one, other))

    def test_74_great_steps_of_small_grids(self):
        for one, other in [
                (((3, 1), (-2, 4)), ((2, 0), (1, 2))), (((4, 0), (2, 6)), ((6, 0), (3, 4))),
                (((2, 0), (0, 2)), ((2, 1), (-1, 2)))]:
            have = flat_by_looking(
                lambda point: inside(point, one) and inside(point, other),
                abs(det(one) * det(other)))
            make = both_make(one, other)
            self.assertEqual(abs(det(make)), abs(det(one) * det(other)) // abs(det(have)))
            for way, back in itertools.product(WAYS + GREAT_WAYS, repeat=2):
                pairs = (changed(one, way), changed(other, back))
                self.assertEqual(both_have(*pairs), have)
                self.assertEqual(both_make(*pairs), make)

    def test_74_upright_grids_of_thirty_figures(self):
        numbers = [BIG, 2 * 3 ** 40, 6 ** 30, 10 ** 29, 7 * 10 ** 28 + 5]
        for a, d, e, h in itertools.product(numbers, repeat=4):
            one, other = ((a, 0), (0, -d)), ((0, h), (e, 0))
            self.assertEqual(both_have(one, other), (
                (math.lcm(a, e), 0), (0, math.lcm(d, h))))
            self.assertEqual(both_make(one, other), (
                (math.gcd(a, e), 0), (0, math.gcd(d, h))))

    def test_74_numbers_of_thirty_figures(self):
        parts = [changed(pair, ((6, 2), (1, 9))) for pair in GREAT[:3]]
        for one, other in itertools.product(GREAT + parts, repeat=2):
            have, make = both_have(one, other), both_make(one, other)
            self.is_flat_pair(have)
            self.is_flat_pair(make)
            for pair in (one, other):
                self.assertTrue(is_inside(have, pair))
                self.assertTrue(is_inside(pair, make))
            # The room of what some points make divides each of their
            # determinants, two by two, and is the greatest that does.
            room = math.gcd(*[det(two) for two in itertools.combinations(one + other, 2)])
            self.assertEqual(abs(det(make)), room)
            self.assertEqual(abs(det(have)) * room, abs(det(one) * det(other)))

    def test_75_rooms(self):
        great = [changed(((3, 1), (-2, 4)), way) for way in GREAT_WAYS]
        pairs = list(itertools.islice(small_pairs(-3, 3), 0, None, 67)) + GREAT + great
        for one, other in itertools.product(pairs, repeat=2):
            have, make = both_have(one, other), both_make(one, other)
            self.assertEqual(abs(det(one) * det(other)), abs(det(have) * det(make)))
            for pair in (one, other):
                self.assertIs(is_part(pair, make), True)
                self.assertIs(is_part(have, pair), True)
                self.assertEqual(times_of(have, pair) * abs(det(pair)), abs(det(have)))
            self.assertEqual(times_of(have, one), times_of(other, make))

    def test_75_a_part_of_a_part_is_a_part(self):
        for pair in [UNIT, ((3, 1), (-2, 4))] + GREAT[:2]:
            for part in parts_of(pair, 4):
                self.assertEqual(both_have(part, pair), part)
                self.assertEqual(both_make(part, pair), flat(pair))
                for less in parts_of(part, 3):
                    self.assertIs(is_part(less, pair), True)
                    self.assertEqual(times_of(less, pair), 12)
                    self.assertIn(less, parts_of(pair, 12))

    def test_75_the_same_grid_both_times(self):
        for pair in PAIRS + GREAT:
            for way in WAYS[:3]:
                self.assertEqual(both_have(pair, changed(pair, way)), flat(pair))
                self.assertEqual(both_make(changed(pair, way), pair), flat(pair))
                self.assertIs(is_same(both_have(pair, pair), pair), True)

    def test_3_what_was_told_handed_in_again(self):
        one, other = GREAT[0], GREAT[2]
        for _ in range(4):
            have, make = both_have(one, other), both_make(one, other)
            self.is_flat_pair(have)
            self.assertEqual(abs(det(have) * det(make)), abs(det(one) * det(other)))
            self.assertTrue(is_inside(have, one) and is_inside(have, other))
            self.assertEqual(both_have(have, one), have)
            self.assertEqual(both_make(make, other), make)
            one, other = changed(have, ((3, 1), (-5, 7))), changed(other, GREAT_WAYS[2])
            other = (other[0], (other[1][0] + 1, other[1][1]))

    def test_5_no_pair_for_each_ahead_of_all_else(self):
        beside = ((2, 0), (0, 3))
        for thing in STRANGE + POINTS + THREES:
            for function in FUNCTIONS:
                self.refused(NoPair, function, thing, UNIT)
                self.refused(NoPair, function, UNIT, thing)
                self.refused(NoPair, function, thing, thing)
                self.refused(NoPair, function, beside, thing)
                self.refused(NoPair, function, thing, beside)


if __name__ == "__main__":
    unittest.main()
