"""Points 11 to 13: points, steps, products, rooms, and which grids are the same."""

import itertools
import unittest

from shortsteps.grids import is_point, is_same, is_steps, numbers_of, product, reached, room
from tests.things import (
    BIG, PAIRS, STRANGE, THREES, Case, det, lies_in, remainders, small_pairs, small_threes)

POINTS = [
    (0, 0), (1, 2), (-3, 4), (0, -1), (BIG, -BIG),
    (0, 0, 0), (1, 2, 3), (-1, 0, 5), (BIG, -BIG, 1),
]
# What of STRANGE has the form of a point is not among these.
NO_POINTS = [thing for thing in STRANGE if thing not in POINTS]


class KindsTest(Case):

    def test_11_points(self):
        for point in POINTS:
            with self.subTest(point=point):
                self.assertIs(is_point(point), True)

    def test_11_no_points(self):
        for thing in NO_POINTS + PAIRS + THREES:
            with self.subTest(thing=thing):
                self.assertIs(is_point(thing), False)

    def test_2_true_and_false_are_no_whole_numbers(self):
        for width in (2, 3):
            for at in range(width):
                for truth in (True, False):
                    numbers = [5] * width
                    numbers[at] = truth
                    with self.subTest(numbers=numbers):
                        self.assertIs(is_point(tuple(numbers)), False)

    def test_2_a_list_is_no_tuple(self):
        self.assertIs(is_point([1, 2]), False)
        self.assertIs(is_steps([(1, 0), (0, 1)]), False)
        self.assertIs(is_steps(([1, 0], (0, 1))), False)
        self.assertIs(is_steps(((1, 0, 0), (0, 1, 0), [0, 0, 1])), False)

    def test_11_steps(self):
        for steps in PAIRS + THREES:
            with self.subTest(steps=steps):
                self.assertIs(is_steps(steps), True)

    def test_11_no_steps(self):
        for thing in STRANGE + POINTS:
            with self.subTest(thing=thing):
                self.assertIs(is_steps(thing), False)

    def test_2_a_determinant_of_nought_makes_no_steps(self):
        for a, b, c, d in itertools.product(range(-2, 3), repeat=4):
            pair = ((a, b), (c, d))
            self.assertIs(is_steps(pair), det(pair) != 0, pair)
        rows = itertools.product(range(-1, 2), repeat=9)
        for row in itertools.islice(rows, 0, None, 7):
            steps = (row[:3], row[3:6], row[6:])
            self.assertIs(is_steps(steps), det(steps) != 0, steps)

    def test_2_nought_by_numbers_of_thirty_figures(self):
        self.assertIs(is_steps(((BIG, BIG - 1), (BIG - 1, BIG - 2))), True)
        self.assertIs(is_steps(((BIG, 2 * 10 ** 29), (BIG, 2 * 10 ** 29))), False)
        self.assertIs(is_steps(((BIG, 1, 0), (0, 1, 1), (BIG, 2, 1))), False)


class ProductTest(Case):

    def test_11_products(self):
        for one, other, told in [
                ((1, 2), (3, 4), 11), ((1, 0), (0, 1), 0), ((-3, 5), (2, -7), -41),
                ((0, 0), (9, 9), 0), ((1, 2, 3), (4, 5, 6), 32), ((1, -1, 2), (1, 1, 0), 0),
                ((1, 2, -3), (4, -5, 6), -24), ((BIG, 0), (BIG, 1), BIG * BIG),
                ((BIG, -BIG, 1), (BIG, BIG, 7), 7)]:
            with self.subTest(one=one, other=other):
                self.assertEqual(product(one, other), told)
                self.assertEqual(product(other, one), told)
                self.is_plain(product(one, other), int)

    def test_11_each_place_counts(self):
        self.assertEqual([product((1, 0, 0), (2, 3, 5)), product((0, 1, 0), (2, 3, 5)),
                          product((0, 0, 1), (2, 3, 5))], [2, 3, 5])

    def test_11_rooms(self):
        for steps, told in [
                (((1, 0), (0, 1)), 1), (((0, 1), (1, 0)), 1), (((3, 1), (-2, 4)), 14),
                (((-2, 4), (3, 1)), 14), (((2, 3), (5, 7)), 1),
                (((1, 0, 0), (0, 1, 0), (0, 0, 1)), 1), (((0, 1, 0), (1, 0, 0), (0, 0, 1)), 1),
                (((2, 0, 0), (0, 3, 0), (0, 0, -5)), 30), (((1, 2, 3), (4, 5, 6), (7, 8, 10)), 3),
                (((1, 1, 0), (1, 0, 1), (0, 1, 1)), 2), (((BIG, 0), (0, BIG)), BIG * BIG)]:
            with self.subTest(steps=steps):
                self.assertEqual(room(steps), told)
                self.is_plain(room(steps), int)

    def test_11_rooms_of_many(self):
        for steps in itertools.chain(small_pairs(-2, 2), small_threes(101), PAIRS, THREES):
            self.assertEqual(room(steps), abs(det(steps)), steps)


class ReachedTest(Case):

    def test_12_points_that_come(self):
        for steps, numbers, told in [
                (((3, 1), (-2, 4)), (1, 0), (3, 1)), (((3, 1), (-2, 4)), (0, 1), (-2, 4)),
                (((3, 1), (-2, 4)), (2, -3), (12, -10)), (((3, 1), (-2, 4)), (0, 0), (0, 0)),
                (((3, 1), (-2, 4)), (-1, -1), (-1, -5)),
                (((1, 2, 3), (4, 5, 6), (7, 8, 10)), (1, -1, 2), (11, 13, 17)),
                (((1, 2, 3), (4, 5, 6), (7, 8, 10)), (0, 0, 0), (0, 0, 0)),
                (((1, 0), (0, 1)), (BIG, -BIG), (BIG, -BIG)),
                (((BIG, 1), (0, BIG)), (BIG, 1), (BIG * BIG, 2 * BIG))]:
            with self.subTest(steps=steps, numbers=numbers):
                point = reached(steps, numbers)
                self.assertEqual(point, told)
                self.is_plain(point, tuple)
                self.assertEqual(numbers_of(steps, told), numbers)

    def test_12_there_and_back(self):
        for steps in PAIRS + THREES:
            for numbers in itertools.product((-2, 0, 1, BIG), repeat=len(steps)):
                back = numbers_of(steps, reached(steps, numbers))
                self.assertEqual(back, numbers)
                self.is_plain(back, tuple)

    def test_12_points_that_are_not_of_the_grid(self):
        for steps, point in [
                (((2, 0), (0, 1)), (1, 0)), (((2, 0), (0, 1)), (-1, 5)), (((1, 0), (0, 2)), (4, 1)),
                (((3, 1), (-2, 4)), (1, 0)), (((1, 1), (1, -1)), (0, 1)),
                (((1, 0, 0), (0, 1, 0), (0, 0, 2)), (3, 3, 1)),
                (((2, 0, 0), (0, 1, 0), (0, 0, 1)), (1, 2, 2)),
                (((1, 0, 0), (0, 2, 0), (0, 0, 1)), (2, -1, 2)),
                (((1, 1, 0), (1, 0, 1), (0, 1, 1)), (1, 0, 0)),
                (((BIG, 0), (0, BIG)), (BIG - 1, BIG))]:
            with self.subTest(steps=steps, point=point):
                self.assertIs(numbers_of(steps, point), None)

    def test_12_just_the_points_of_the_grid(self):
        for steps in itertools.islice(small_pairs(-2, 2), 0, None, 3):
            grid = remainders(steps)
            for point in itertools.product(range(-4, 5), repeat=2):
                self.right_numbers(steps, point, grid)

    def test_12_just_the_points_of_the_grid_in_space(self):
        for steps in small_threes(2003):
            grid = remainders(steps)
            for point in itertools.product(range(-2, 3), repeat=3):
                self.right_numbers(steps, point, grid)

    def right_numbers(self, steps, point, grid):
        numbers = numbers_of(steps, point)
        if lies_in(point, grid):
            self.assertEqual(reached(steps, numbers), point, (steps, point))
        else:
            self.assertIs(numbers, None, (steps, point))


class SameTest(Case):

    def test_13_the_same_grid(self):
        for steps, other in [
                (((1, 0), (0, 1)), ((0, 1), (1, 0))), (((1, 0), (0, 1)), ((2, 3), (5, 7))),
                (((1, 0), (0, 1)), ((1, 0), (BIG, 1))), (((3, 1), (-2, 4)), ((1, 5), (-2, 4))),
                (((2, 0), (1, 1)), ((1, -1), (1, 1))),
                (((1, 0, 0), (0, 1, 0), (0, 0, 1)), ((1, 5, 7), (0, -1, 3), (0, 0, 1))),
                (((1, 1, 0), (1, 0, 1), (0, 1, 1)), ((-1, 1, 0), (0, -1, 1), (1, 1, 0)))]:
            with self.subTest(steps=steps, other=other):
                self.assertIs(is_same(steps, other), True)
                self.assertIs(is_same(other, steps), True)

    def test_13_other_grids(self):
        for steps, other in [
                (((1, 0), (0, 1)), ((2, 0), (0, 1))), (((2, 0), (0, 1)), ((1, 0), (0, 2))),
                (((1, 0), (0, 1)), ((1, 0), (BIG, BIG))), (((3, 1), (-2, 4)), ((3, 1), (2, 4))),
                (((2, 1), (0, 5)), ((1, 2), (5, 0))), (((1, 0), (0, 6)), ((2, 0), (0, 3))),
                (((1, 0, 0), (0, 1, 0), (0, 0, 1)), ((1, 0, 0), (0, 1, 0), (0, 0, 2))),
                (((2, 0, 0), (0, 1, 0), (0, 0, 1)), ((1, 0, 0), (0, 2, 0), (0, 0, 1)))]:
            with self.subTest(steps=steps, other=other):
                self.assertIs(is_same(steps, other), False)
                self.assertIs(is_same(other, steps), False)

    def test_13_unlike_widths_never_do(self):
        for pair in PAIRS:
            for three in THREES:
                self.assertIs(is_same(pair, three), False)
                self.assertIs(is_same(three, pair), False)

    def test_13_just_where_the_points_are_the_same(self):
        grids = [(pair, remainders(pair)) for pair in small_pairs(-1, 2)]
        for (one, of_one), (other, of_other) in itertools.product(grids, repeat=2):
            self.assertIs(is_same(one, other), of_one == of_other, (one, other))

    def test_13_just_where_the_points_in_space_are_the_same(self):
        grids = [(steps, remainders(steps)) for steps in small_threes(2411)]
        for (one, of_one), (other, of_other) in itertools.product(grids, repeat=2):
            self.assertIs(is_same(one, other), of_one == of_other, (one, other))


if __name__ == "__main__":
    unittest.main()
