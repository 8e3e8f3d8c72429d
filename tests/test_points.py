"""Points 51 to 53: points of a grid counted by length, and those nearest to a point."""

import itertools
import unittest

from shortsteps.errors import NoNumber, NoPair, NoPoint
from shortsteps.grids import numbers_of
from shortsteps.points import many_of, nearest, nearest_length, up_to
from shortsteps.short import least_points, moved
from tests.things import (
    BIG, GREAT_WAYS, PAIRS, POINTS, STRANGE, THREES, WAYS, Case, changed, dot, grid_points,
    is_int, plane, products_by_words, small_pairs)

# Square, upright, slanted, far apart in one way or in both.
GRIDS = [
    ((1, 0), (0, 1)), ((2, 0), (1, 1)), ((3, 1), (-2, 4)), ((1, 0), (0, 7)), ((0, 8), (1, 0)),
    ((2, 1), (1, 2)), ((4, 0), (2, 4)), ((2, 1), (-1, 2)), ((7, 1), (2, 7)), ((8, 1), (1, 8)),
    ((1, 0), (0, BIG)), ((1, 1), (BIG, -BIG)), ((BIG, 0), (0, BIG)), ((6, 5), (-5, 6)),
    ((60, 0), (7, 1)), ((5, 8), (3, 5))]


def far(one, other):
    """The length of a point less the other one, found apart from the program."""
    return sum((a - b) ** 2 for a, b in zip(one, other))


def plus(one, other):
    return (one[0] + other[0], one[1] + other[1])


def nearest_by_looking(pair, point):
    """The least length and the nearest points, of steps no longer than six.

    No point of the plane is farther from the grid than half of both steps.
    """
    reach = max(abs(point[0]), abs(point[1])) + 6
    points = grid_points(pair, reach)
    least = min(far(one, point) for one in points)
    return least, [one for one in points if far(one, point) == least]


class ManyTest(Case):

    def test_51_how_many(self):
        square = ((1, 0), (0, 1))
        for pair, number, told in [
                (square, 0, 1), (square, 1, 4), (square, 2, 4), (square, 3, 0), (square, 4, 4),
                (square, 5, 8), (square, 25, 12), (square, 50, 12), (square, 59, 0),
                (square, 60, 0), (square, 58, 8), (((2, 0), (1, 1)), 1, 0),
                (((2, 0), (1, 1)), 2, 4), (((3, 1), (-2, 4)), 10, 2), (((1, 0), (0, 7)), 49, 4),
                (((1, 0), (0, 8)), 49, 2), (((BIG, 0), (0, BIG)), 0, 1),
                (((2, 0), (4, 7)), 53, 4), (((2, 7), (BIG, 0)), 53, 2),
                (((7, 3), (-3, 7)), 58, 4), (((6, 0), (0, 10)), 36, 2), (((2, 4), (8, -4)), 60, 0)]:
            with self.subTest(pair=pair, number=number):
                self.assertEqual(many_of(pair, number), told)
                self.is_plain(many_of(pair, number), int)

    def test_51_points_up_to_a_length(self):
        square = ((1, 0), (0, 1))
        for pair, number, told in [
                (square, 0, [(0, 0)]), (square, 1, [(-1, 0), (0, -1), (0, 0), (0, 1), (1, 0)]),
                (((3, 1), (-2, 4)), 9, [(0, 0)]),
                (((3, 1), (-2, 4)), 10, [(-3, -1), (0, 0), (3, 1)]),
                (((1, 0), (0, 2)), 4, [
                    (-2, 0), (-1, 0), (0, -2), (0, 0), (0, 2), (1, 0), (2, 0)]),
                (((7, 3), (BIG, BIG)), 57, [(0, 0)]),
                (((7, 3), (BIG, BIG)), 58, [(-7, -3), (0, 0), (7, 3)]),
                (((BIG, 0), (0, BIG)), 60, [(0, 0)])]:
            with self.subTest(pair=pair, number=number):
                now = up_to(pair, number)
                self.assertEqual(now, told)
                self.is_plain(now, list)
                for point in now:
                    self.is_plain(point, tuple)
                    for part in point:
                        self.is_plain(part, int)

    def test_51_each_length_by_looking_at_the_points(self):
        for pair in GRIDS:
            points = grid_points(pair, 9)
            for number in range(61):
                told = [point for point in points if dot(point, point) <= number]
                self.assertEqual(up_to(pair, number), told, (pair, number))
                just = [point for point in told if dot(point, point) == number]
                self.assertEqual(many_of(pair, number), len(just), (pair, number))

    def test_51_small_pairs_by_looking_at_the_points(self):
        for pair in itertools.islice(small_pairs(-3, 3), 0, None, 11):
            points = grid_points(pair, 8)
            for number in (0, 1, 2, 3, 8, 26, 49, 50, 59, 60):
                told = [point for point in points if dot(point, point) <= number]
                self.assertEqual(up_to(pair, number), told, (pair, number))
                just = [point for point in told if dot(point, point) == number]
                self.assertEqual(many_of(pair, number), len(just), (pair, number))

    def test_51_great_steps_of_grids_with_short_ones(self):
        for pair in [((1, 0), (0, 1)), ((2, 0), (1, 2)), ((3, 1), (-2, 4)), ((7, 1), (1, 7))]:
            points = grid_points(pair, 8)
            for way in WAYS + GREAT_WAYS:
                great = changed(pair, way)
                for number in (0, 1, 4, 10, 13, 50, 60):
                    told = [point for point in points if dot(point, point) <= number]
                    self.assertEqual(up_to(great, number), told, (great, number))
                    just = [point for point in told if dot(point, point) == number]
                    self.assertEqual(many_of(great, number), len(just), (great, number))

    def test_6_the_points_are_just_those_of_the_grid(self):
        great = [changed(((2, 1), (1, 2)), way) for way in WAYS + GREAT_WAYS]
        for pair in GRIDS + great:
            told = up_to(pair, 60)
            inside = [point for point in plane(8)
                      if dot(point, point) <= 60 and numbers_of(pair, point) is not None]
            self.assertEqual(told, inside, pair)
            self.assertEqual(sum(many_of(pair, number) for number in range(61)), len(told))

    def test_3_points_of_what_was_told_whatever_its_size(self):
        great = moved(((3, 1), (-2, 4)), [("less", -BIG), ("turn",)] * 20)
        self.assertEqual(up_to(great, 20), [(-3, -1), (-2, 4), (0, 0), (2, -4), (3, 1)])
        self.assertEqual(many_of(great, 20), 2)

    def test_51_no_number(self):
        others = [61, 62, 100, -1, -60, 10 ** 6, True, False]
        for thing in STRANGE + POINTS + PAIRS + THREES + others:
            if not is_int(thing, 0, 1, 7):
                for pair in [((1, 0), (0, 1)), ((3, 1), (-2, 4)), ((BIG, 0), (0, BIG))]:
                    self.refused(NoNumber, many_of, pair, thing)
                    self.refused(NoNumber, up_to, pair, thing)

    def test_5_no_pair_ahead_of_no_number(self):
        for thing in STRANGE + POINTS + THREES:
            for number in [0, 60, 61, -1, True, None, "1", thing]:
                self.refused(NoPair, many_of, thing, number)
                self.refused(NoPair, up_to, thing, number)


class NearestTest(Case):

    def test_52_nearest(self):
        square, rows = ((1, 0), (0, 1)), ((4, 0), (0, 10))
        for pair, point, length, told in [
                (square, (5, -3), 0, [(5, -3)]), (((2, 0), (0, 2)), (1, 1), 2, [
                    (0, 0), (0, 2), (2, 0), (2, 2)]),
                (((2, 0), (0, 2)), (1, 0), 1, [(0, 0), (2, 0)]),
                (((2, 0), (0, 2)), (-3, 4), 1, [(-4, 4), (-2, 4)]),
                (rows, (1, 4), 17, [(0, 0)]), (rows, (3, 6), 17, [(4, 10)]),
                (rows, (2, 5), 29, [(0, 0), (0, 10), (4, 0), (4, 10)]),
                (rows, (-2, 4), 20, [(-4, 0), (0, 0)]), (rows, (4, -5), 25, [(4, -10), (4, 0)]),
                (((3, 1), (-2, 4)), (0, 2), 4, [(0, 0)]),
                (((3, 1), (-2, 4)), (2, 2), 2, [(3, 1)]), (((0, 8), (8, 4)), (3, 4), 25, [
                    (0, 0), (0, 8), (8, 4)]),
                (((BIG, 0), (0, BIG)), (1, 1), 2, [(0, 0)]),
                (((2 * 10 ** 29, 0), (0, 2 * 10 ** 29)), (10 ** 29, 7), 10 ** 58 + 49, [
                    (0, 0), (2 * 10 ** 29, 0)]),
                (square, (BIG, -BIG), 0, [(BIG, -BIG)]),
                (((2, 0), (0, 2)), (BIG, BIG), 2, [
                    (BIG - 1, BIG - 1), (BIG - 1, BIG + 1),
                    (BIG + 1, BIG - 1), (BIG + 1, BIG + 1)])]:
            with self.subTest(pair=pair, point=point):
                now = nearest(pair, point)
                self.assertEqual(now, told)
                self.is_plain(now, list)
                for one in now:
                    self.is_plain(one, tuple)
                    self.assertEqual([type(number) for number in one], [int, int])
                self.assertEqual(nearest_length(pair, point), length)
                self.is_plain(nearest_length(pair, point), int)

    def test_52_small_pairs_by_looking_at_the_points(self):
        seen = {}
        for pair in itertools.islice(small_pairs(-3, 3), 0, None, 17):
            for point in plane(3):
                least, told = nearest_by_looking(pair, point)
                self.assertEqual(nearest(pair, point), told, (pair, point))
                self.assertEqual(nearest_length(pair, point), least, (pair, point))
                seen[len(told)] = True
        for many in (1, 2, 4):
            self.assertIn(many, seen)

    def test_52_wider_grids_by_looking_at_the_points(self):
        seen = {}
        for pair in [((8, 0), (4, 7)), ((8, 1), (1, 8)), ((5, 10), (10, -5)), ((6, 2), (1, 7)),
                     ((10, 0), (5, 5)), ((10, 0), (4, 8)), ((4, 2), (-2, 9)), ((10, 0), (5, 10)),
                     ((1, 9), (9, 1)), ((2, 9), (-9, 2)), ((12, 0), (6, 9)), ((9, 0), (1, 1)),
                     ((0, 8), (8, 4))]:
            points = grid_points(pair, 36)
            for point in plane(10):
                least = min(far(one, point) for one in points)
                told = [one for one in points if far(one, point) == least]
                self.assertEqual(nearest(pair, point), told, (pair, point))
                self.assertEqual(nearest_length(pair, point), least, (pair, point))
                seen[len(told)] = True
        # Three points are as near in the middle of a triangle of them.
        self.assertEqual(sorted(seen), [1, 2, 3, 4])

    def test_52_great_steps_of_the_same_grid(self):
        for pair in [((3, 1), (-2, 4)), ((2, 0), (1, 2)), ((2, 0), (0, 2)), ((3, 3), (-3, 2))]:
            for point in [(0, 0), (1, 0), (-1, 2), (3, -2), (1, 1), (5, 4)]:
                least, told = nearest_by_looking(pair, point)
                for way in WAYS + GREAT_WAYS:
                    great = changed(pair, way)
                    self.assertEqual(nearest(great, point), told, (great, point))
                    self.assertEqual(nearest_length(great, point), least, (great, point))

    def test_53_far_away_the_nearest_points_shift_with_the_point(self):
        shifts = [(1, 0), (-7, 4), (10 ** 28, 3), (9876543210, -10 ** 13), (-10 ** 28, 10 ** 27)]
        for pair in [((3, 1), (-2, 4)), ((2, 0), (0, 2)), ((1, 0), (0, 6)), ((4, 0), (2, 4))]:
            for point, numbers in itertools.product(plane(2), shifts):
                least, told = nearest_by_looking(pair, point)
                shift = changed(pair, (numbers,))[0]
                self.assertEqual(
                    nearest(pair, plus(point, shift)), [plus(one, shift) for one in told])
                self.assertEqual(nearest_length(pair, plus(point, shift)), least)

    def test_53_great_short_steps(self):
        pair = ((2 * 10 ** 28, 6), (10 ** 28, 3 * 10 ** 28))
        first, second = pair
        middle = (10 ** 28, 3)
        for point, told in [
                (first, [first]), (second, [second]), (middle, [(0, 0), first]),
                (plus(middle, second), [second, plus(first, second)]),
                (plus(second, (10 ** 9, -5)), [second]), ((7, 7), [(0, 0)]),
                (plus(first, (-10 ** 27, 10 ** 27)), [first])]:
            with self.subTest(point=point):
                self.assertEqual(nearest(pair, point), sorted(told))
                self.assertEqual(nearest_length(pair, point), far(point, told[0]))

    def test_53_a_point_of_the_grid_is_the_one_nearest_to_itself(self):
        great = [changed(((3, 1), (-2, 4)), way) for way in WAYS + GREAT_WAYS]
        for pair in PAIRS + GRIDS + great:
            for numbers in [(0, 0), (1, 0), (0, -1), (3, -4), (BIG, 2), (-BIG, BIG)]:
                point = changed(pair, (numbers,))[0]
                self.assertEqual(nearest(pair, point), [point], pair)
                self.assertEqual(nearest_length(pair, point), 0, pair)

    def test_53_the_least_length_that_is_not_nought(self):
        for pair in itertools.chain(itertools.islice(small_pairs(-3, 3), 0, None, 13), GRIDS[:10]):
            least = least_points(pair)
            length = dot(least[0], least[0])
            for number in range(1, min(length, 61)):
                self.assertEqual(many_of(pair, number), 0, pair)
            if length <= 60:
                self.assertEqual(many_of(pair, length), len(least), pair)
                self.assertEqual(
                    [point for point in up_to(pair, length) if point != (0, 0)], least, pair)

    def test_52_no_point_of_the_grid_is_nearer(self):
        steps = [31415926535897, -27182818284590, 99999999999999]
        for a, b, c in itertools.product(steps, repeat=3):
            pair = ((a, 14142135623730), (b, c + 1))
            for point in [(0, 1), (b, a), (57721566490153, -10 ** 13), (c, c)]:
                told = nearest(pair, point)
                least = nearest_length(pair, point)
                self.assertEqual(told, sorted(set(told)))
                for one in told:
                    self.assertIsNotNone(numbers_of(pair, one))
                    self.assertEqual(far(one, point), least)
                # Half of each step of a short pair to the side is enough.
                low, _, high = products_by_words(shortened(pair))
                self.assertLessEqual(4 * least, low + high)
                for one in told:
                    for step in around(shortened(pair)):
                        there = plus(one, step)
                        self.assertEqual(far(there, point) <= least, there in told)

    def test_3_points_of_whatever_size(self):
        pair = moved(((3, 1), (-2, 4)), [("less", -BIG), ("turn",)] * 10)
        point = pair[0]
        self.assertEqual(nearest(pair, point), [point])
        self.assertEqual(nearest(pair, plus(point, (0, 1))), [point])
        self.assertEqual(nearest_length(pair, plus(point, (0, 1))), 1)

    def test_52_no_point(self):
        others = [(0, 0, 0), (1, 2, 3), (0,), (), (True, 0), (0, False), [0, 0], "0,0", None,
                  (1, 0, BIG), ((0, 0),), ("0", "0"), (0, None), {0: 0, 1: 1}, 0]
        for thing in STRANGE + PAIRS + THREES + others:
            for pair in [((1, 0), (0, 1)), ((3, 1), (-2, 4))]:
                self.refused(NoPoint, nearest, pair, thing)
                self.refused(NoPoint, nearest_length, pair, thing)

    def test_5_no_pair_ahead_of_no_point(self):
        for thing in STRANGE + POINTS + THREES:
            for point in [(0, 0), (0, 0, 0), None, [0, 0], (True, 0), thing]:
                self.refused(NoPair, nearest, thing, point)
                self.refused(NoPair, nearest_length, thing, point)


def shortened(pair):
    """A pair of the same grid that is as short as can be, found apart from the program."""
    first, second = pair
    while True:
        k = (2 * dot(first, second) + dot(first, first)) // (2 * dot(first, first))
        second = (second[0] - k * first[0], second[1] - k * first[1])
        if dot(first, first) <= dot(second, second):
            return (first, second)
        first, second = second, first


def around(pair):
    """The points of the grid but nought that take each step twice at most."""
    ways = [numbers for numbers in plane(2) if numbers != (0, 0)]
    return list(changed(pair, ways))


if __name__ == "__main__":
    unittest.main()
