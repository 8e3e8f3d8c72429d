"""Points 31 to 33: products and shapes of pairs, leadings, and shapes in order."""

import itertools
import math
import unittest

from shortsteps.errors import NoPair, NoShape
from shortsteps.shapes import (
    is_ahead, is_leading, is_shape, leading, products, room_squared, shape)
from shortsteps.short import is_short, moved, short_pair
from tests.things import (
    BIG, GREAT_WAYS, PAIRS, POINTS, STRANGE, THREES, WAYS, Case, changed, det, dot,
    grid_points, is_int, products_by_words, shape_by_words, small_pairs)

SHAPES = [
    (1, 0, 1), (1, 0, 2), (2, 0, 2), (2, 1, 2), (2, 1, 3), (3, 1, 3), (4, 2, 4), (4, 2, 5),
    (5, 2, 5), (1, 0, 7), (5, 0, 9), (5, 1, 9), (5, 2, 9), (60, 30, 60), (61, 30, 61),
    (1, 0, BIG), (BIG, 0, BIG), (BIG - 1, BIG // 2, BIG), (BIG, BIG // 2, BIG)]

# Each but for one word of point 31, or for its kind.
NO_SHAPES = [
    (0, 0, 0), (0, 0, 1), (-1, 0, 1), (-2, -1, 2), (-1, 0, -1), (2, -1, 2), (5, -1, 9),
    (5, -2, 9), (1, 1, 1), (1, 1, 9), (3, 2, 3), (3, 2, 9), (5, 3, 9), (2, 2, 2), (4, 3, 4),
    (2, 0, 1), (2, 1, 1), (9, 1, 5), (1, 0, 0), (1, 0, -1), (BIG, 0, BIG - 1),
    (BIG, BIG // 2 + 1, BIG), (BIG, -1, BIG), (0, 0, BIG), (-BIG, 0, BIG),
    (True, 0, 1), (1, False, 1), (1, 0, True), (True, False, True), (False, False, False),
    [1, 0, 1], [2, 1, 3], {1: 0, 2: 1}, "101", "1,0,1", (1, 0), (1, 0, 1, 1), (2, 1),
    (1,), ((1, 0, 1),), [(1, 0, 1)], ("1", 0, 1), (1, "0", 1), (1, 0, "1"), (1, None, 1),
    (None, 0, 1), (1, 0, None), ((1,), 0, 1), ([1], 0, 1), (1, 0, {}), (1, (0,), 1),
    ("1", "0", "1"), (1, 0, (1,)), ({}, {}, {})]


def shape_by_points(pair):
    """A shape, found by looking at all points of the grid about nought."""
    points = [point for point in grid_points(pair, 7) if point != (0, 0)]
    a, first = min((dot(point, point), point) for point in points)
    c = min(dot(point, point) for point in points if det((first, point)) != 0)
    # The room times itself is A C less B B.
    b = math.isqrt(a * c - det(pair) ** 2)
    return (a, b, c)


def leads_by_words(thing, pair, other):
    """Whether a tuple of tuples of numbers is a leading, by the words of point 32."""
    return (det(thing) in (1, -1)
            and products_by_words(changed(pair, thing)) == products_by_words(other))


def small_ways(reach):
    """All tuples ((p, q), (r, s)) of small numbers, whatever their determinant."""
    for p, q, r, s in itertools.product(range(-reach, reach + 1), repeat=4):
        yield ((p, q), (r, s))


def turned(pair):
    return tuple((-y, x) for x, y in pair)


def mirrored(pair):
    return tuple((x, -y) for x, y in pair)


class ProductsTest(Case):

    def test_31_products(self):
        for pair, told in [
                (((1, 0), (0, 1)), (1, 0, 1)), (((3, 1), (-2, 4)), (10, -2, 20)),
                (((-2, 4), (3, 1)), (20, -2, 10)), (((2, 0), (1, 1)), (4, 2, 2)),
                (((5, 8), (3, 5)), (89, 55, 34)), (((0, -7), (4, 2)), (49, -14, 20)),
                (((1, 0), (BIG, 1)), (1, BIG, BIG * BIG + 1)),
                (((BIG, 0), (0, -BIG)), (BIG * BIG, 0, BIG * BIG))]:
            with self.subTest(pair=pair):
                now = products(pair)
                self.assertEqual(now, told)
                self.is_plain(now, tuple)
                for number in now:
                    self.is_plain(number, int)

    def test_31_products_by_their_words(self):
        for pair in itertools.chain(small_pairs(-3, 3), PAIRS):
            self.assertEqual(products(pair), products_by_words(pair), pair)


class ShapeTest(Case):

    def test_31_shapes(self):
        for pair, told in [
                (((1, 0), (0, 1)), (1, 0, 1)), (((0, 1), (1, 0)), (1, 0, 1)),
                (((3, 1), (-2, 4)), (10, 2, 20)), (((2, 0), (1, 1)), (2, 0, 2)),
                (((5, 8), (3, 5)), (1, 0, 1)), (((2, 0), (1, 2)), (4, 2, 5)),
                (((2, 0), (-1, 2)), (4, 2, 5)), (((2, 1), (1, 2)), (2, 1, 5)),
                (((3, 0), (1, 3)), (9, 3, 10)), (((2, 1), (-1, 2)), (5, 0, 5)),
                (((0, 5), (1, 0)), (1, 0, 25)), (((1, 0), (BIG, 1)), (1, 0, 1)),
                (((8, 0), (4, 7)), (64, 32, 65)), (((8, 1), (1, 8)), (65, 16, 65)),
                (((BIG, 0), (0, BIG)), (BIG * BIG, 0, BIG * BIG))]:
            with self.subTest(pair=pair):
                now = shape(pair)
                self.assertEqual(now, told)
                self.is_plain(now, tuple)
                for number in now:
                    self.is_plain(number, int)

    def test_31_shapes_by_looking_at_the_points(self):
        for pair in small_pairs(-3, 3):
            self.assertEqual(shape(pair), shape_by_points(pair), pair)

    def test_31_each_shape_is_one_and_the_products_of_the_short_pair(self):
        for pair in itertools.chain(small_pairs(-2, 3), PAIRS):
            self.assertEqual(shape(pair), products(short_pair(pair)), pair)
            self.assertIs(is_shape(shape(pair)), True, pair)
            if is_short(pair):
                self.assertEqual(shape(pair), products_by_words(pair), pair)

    def test_31_the_same_for_all_pairs_of_a_grid(self):
        for pair in itertools.islice(small_pairs(-3, 3), 0, None, 37):
            told = shape_by_points(pair)
            for way in WAYS + GREAT_WAYS:
                great = changed(pair, way)
                self.assertEqual(shape(great), told, great)

    def test_31_numbers_of_fourteen_figures(self):
        for a, b, c, d in itertools.product(
                [31415926535897, -27182818284590, 99999999999999, 16180339887498],
                [14142135623730, -17320508075688, 1, 0], [-99999999999998, 57721566490153],
                [22360679774997, -69314718055994, 10 ** 13]):
            pair = ((a, b), (c, d))
            self.assertEqual(shape(pair), shape_by_words(pair), pair)
            self.assertEqual(shape(turned(pair)), shape_by_words(pair), pair)
            self.assertEqual(shape(mirrored(pair)), shape_by_words(pair), pair)

    def test_3_the_shape_of_what_was_told_whatever_its_size(self):
        for start in [((1, 0), (0, 1)), ((4, 0), (2, 5)), ((3, 1), (-2, 4))]:
            great = moved(start, [("less", -BIG), ("turn",)] * 20)
            self.assertGreater(great[0][0].bit_length(), 1900)
            self.assertEqual(shape(great), shape_by_points(start))
            self.assertEqual(products(great), products_by_words(great))

    def test_31_just_the_shapes(self):
        for a, b, c in itertools.product(range(-3, 8), repeat=3):
            told = not (b < 0 or 2 * b > a or a > c or a < 1)
            self.assertIs(is_shape((a, b, c)), told, (a, b, c))

    def test_31_shapes_and_no_shapes(self):
        for thing in SHAPES:
            self.assertIs(is_shape(thing), True, thing)
        for thing in NO_SHAPES:
            self.assertIs(is_shape(thing), False, thing)

    def test_31_no_shape_of_whatever_kind(self):
        for thing in STRANGE + POINTS + PAIRS + THREES:
            self.assertIs(is_shape(thing), False, thing)
            self.assertIs(is_shape((thing, 0, BIG)), is_int(thing, 1, 7, BIG), thing)
            self.assertIs(is_shape((BIG, thing, BIG)), is_int(thing, 0, 1, 7), thing)

    def test_3_a_shape_of_whatever_size(self):
        great = shape(((BIG, 0), (1, BIG)))
        self.assertIs(is_shape(great), True)
        for _ in range(6):
            great = tuple(number * number for number in great)
            self.assertIs(is_shape((great[0], 0, great[2])), True)
            self.assertIs(is_shape((great[2] + 1, 0, great[2])), False)

    def test_31_no_pair(self):
        for thing in STRANGE + POINTS + THREES:
            self.refused(NoPair, products, thing)
            self.refused(NoPair, shape, thing)


class LeadingTest(Case):

    def leads(self, pair, other):
        told = leading(pair, other)
        self.is_plain(told, tuple)
        self.assertEqual([len(row) for row in told], [2, 2])
        for row in told:
            self.is_plain(row, tuple)
            for number in row:
                self.is_plain(number, int)
        self.assertTrue(leads_by_words(told, pair, other), (pair, other, told))
        self.assertIs(is_leading(told, pair, other), True, (pair, other, told))

    def test_32_just_the_leadings(self):
        pairs = [
            ((1, 0), (0, 1)), ((1, 1), (0, 1)), ((2, 0), (0, 1)), ((0, 1), (2, 0)),
            ((2, 1), (1, 2)), ((-1, 1), (1, 2)), ((3, 1), (-2, 4)), ((1, 5), (-2, 4))]
        ways = list(small_ways(2))
        found = 0
        for pair, other in itertools.product(pairs, repeat=2):
            for way in ways:
                told = leads_by_words(way, pair, other)
                self.assertIs(is_leading(way, pair, other), told, (way, pair, other))
                found = found + told
        self.assertGreater(found, 50)

    def test_32_one_way_and_not_back(self):
        pair, other = ((1, 0), (0, 1)), ((1, 0), (3, 1))
        self.assertIs(is_leading(((1, 0), (3, 1)), pair, other), True)
        self.assertIs(is_leading(((1, 0), (3, 1)), other, pair), False)
        self.assertIs(is_leading(((1, 0), (-3, 1)), other, pair), True)
        self.assertIs(is_leading(((1, 0), (-3, 1)), pair, other), False)
        # The rows are those told, not the columns.
        self.assertIs(is_leading(((1, 3), (0, 1)), pair, other), False)
        # The other pair need not be reached itself: its products are enough.
        self.assertIs(is_leading(((0, -1), (-1, -3)), pair, other), True)
        self.assertIs(is_leading(((-1, 0), (3, -1)), pair, other), False)

    def test_32_a_part_of_the_grid_is_not_enough(self):
        # The products are those of the other pair, the determinant is not 1 or -1.
        pair = ((1, 0), (0, 1))
        for way in [((2, 0), (0, 1)), ((1, 0), (0, -2)), ((3, 1), (-2, 4)), ((0, 2), (2, 0)),
                    ((2, 1), (1, 2)), ((1, 1), (1, -1)), ((BIG, 0), (0, 1))]:
            self.assertIs(is_leading(way, pair, way), False, way)
            self.assertIsNone(leading(pair, way), way)
        for way in [((0, 0), (0, 0)), ((1, 2), (2, 4)), ((1, 0), (0, 0)), ((1, 1), (1, 1))]:
            self.assertIs(is_leading(way, pair, pair), False, way)

    def test_32_both_signs_of_the_determinant(self):
        pair = ((3, 1), (-2, 4))
        for way in [((1, 0), (0, 1)), ((-1, 0), (0, -1))]:
            self.assertIs(is_leading(way, pair, pair), True)
        for way in [((1, 0), (0, -1)), ((0, 1), (1, 0)), ((0, 1), (-1, 0)), ((-1, 0), (0, 1))]:
            self.assertIs(is_leading(way, pair, pair), False)
        self.assertIs(is_leading(((0, 1), (1, 0)), pair, ((-2, 4), (3, 1))), True)
        self.assertIs(is_leading(((1, 0), (0, -1)), pair, ((3, 1), (2, -4))), True)
        self.assertIs(is_leading(((0, -1), (1, 0)), pair, ((2, -4), (3, 1))), True)

    def test_32_each_of_the_products_counts(self):
        pair, way = ((1, 0), (0, 1)), ((1, 0), (0, 1))
        for other in [((1, 0), (0, 2)), ((2, 0), (0, 1)), ((1, 0), (1, 1)), ((1, 1), (0, 1)),
                      ((3, 4), (0, 1)), ((1, 0), (3, 4)), ((0, 5), (5, 1))]:
            self.assertIs(is_leading(way, pair, other), False, other)
        # The same lengths both times, and products of either sign.
        pair = ((5, 0), (3, 4))
        self.assertIs(is_leading(way, pair, ((5, 0), (-3, 4))), False)
        self.assertIs(is_leading(way, pair, ((5, 0), (4, 3))), False)
        self.assertIs(is_leading(way, pair, ((0, 5), (0 - 4, 3))), True)

    def test_32_no_leading_of_whatever_kind(self):
        pair = ((1, 0), (0, 1))
        for thing in STRANGE + POINTS + THREES:
            self.assertIs(is_leading(thing, pair, pair), False, thing)
            self.assertIs(is_leading((thing, (0, 1)), pair, pair), False, thing)
            self.assertIs(is_leading(((1, 0), thing), pair, pair), False, thing)
            self.assertIs(is_leading(((1, 0), (thing, 1)), pair, pair), is_int(thing, 0), thing)

    def test_32_no_leadings_that_look_like_one(self):
        pair = ((1, 0), (0, 1))
        for thing in [
                [(1, 0), (0, 1)], [[1, 0], [0, 1]], ([1, 0], (0, 1)), ((1, 0), [0, 1]),
                ((True, 0), (0, 1)), ((1, False), (0, 1)), ((1, 0), (False, 1)),
                ((1, 0), (0, True)), ((1, 0, 0), (0, 1, 0)), ((1, 0), (0, 1), (0, 0)),
                ((1, 0), (0, 1), (1, 0)), ((1, 0),), ((1,), (0,)), (1, 0, 0, 1),
                {(1, 0): 0, (0, 1): 1}, ("10", "01"), (("1", "0"), ("0", "1")),
                ((1, 0), (0, "1")), ((1, None), (0, 1)), (((1, 0), (0, 1)),),
                ((1, 0, 0), (0, 1, 0), (0, 0, 1)), ((1, 0), (0, 1, 0)), ((1, 0, 0), (0, 1))]:
            self.assertIs(is_leading(thing, pair, pair), False, thing)

    def test_32_a_leading_just_where_the_shapes_are_alike(self):
        pairs = list(itertools.islice(small_pairs(-3, 3), 0, None, 41))
        shapes = [shape_by_points(pair) for pair in pairs]
        alike = 0
        for pair, one in zip(pairs, shapes):
            for other, another in zip(pairs, shapes):
                if one == another:
                    alike = alike + 1
                    self.leads(pair, other)
                else:
                    self.assertIsNone(leading(pair, other), (pair, other))
        self.assertGreater(alike, len(pairs))

    def test_32_shapes_that_are_but_partly_alike(self):
        for pair, other in [
                (((7, 1), (1, 7)), ((5, 5), (-5, 5))), (((2, 0), (0, 2)), ((2, 0), (1, 2))),
                (((1, 0), (0, 1)), ((1, 0), (0, 2))), (((2, 0), (0, 3)), ((3, 0), (0, 3))),
                (((1, 0), (0, 4)), ((2, 0), (0, 2))), (((1, 0), (0, 6)), ((2, 0), (0, 3))),
                (((2, 1), (-1, 2)), ((1, 0), (0, 5))), (((1, 0), (0, 2)), ((1, 1), (-1, 1))),
                (((2, 1), (1, 2)), ((1, 0), (0, 3))), (((4, 0), (1, 4)), ((4, 0), (2, 4))),
                (((5, 0), (0, 5)), ((5, 0), (1, 5))), (((BIG, 0), (0, 1)), ((1, 0), (0, 1)))]:
            with self.subTest(pair=pair, other=other):
                self.assertIsNone(leading(pair, other))
                self.assertIsNone(leading(other, pair))

    def test_32_turned_and_mirrored_grids(self):
        seen = {}
        slanted = [((8, 1), (1, 8)), ((7, 1), (1, 7)), ((7, 1), (-1, -7))]
        some = itertools.islice(small_pairs(-3, 3), 0, None, 11)
        for pair in itertools.chain(some, PAIRS, slanted):
            self.leads(pair, pair)
            self.leads(pair, turned(pair))
            self.leads(pair, mirrored(pair))
            self.leads(mirrored(turned(pair)), pair)
            self.leads(pair, changed(mirrored(pair), ((2, 1), (7, 4))))
            a, b, c = shape_by_words(pair)
            seen[(b == 0, 2 * b == a, a == c)] = True
        # B nought, twice B as great as A, and A as great as C: each was there.
        self.assertIn((True, False, True), seen)
        self.assertIn((True, False, False), seen)
        self.assertIn((False, True, False), seen)
        self.assertIn((False, False, True), seen)
        self.assertIn((False, False, False), seen)

    def test_32_great_numbers(self):
        small = [((1, 0), (0, 1)), ((2, 0), (1, 2)), ((3, 1), (-2, 4)), ((1, 0), (0, 3)),
                 ((8, 1), (1, 8)), ((2, 1), (1, 2)), ((3, 1), (1, 3))]
        for pair in small:
            for one, other in itertools.product(WAYS + GREAT_WAYS, repeat=2):
                self.leads(changed(pair, one), changed(turned(pair), other))
            for way in WAYS + GREAT_WAYS:
                great = changed(mirrored(pair), way)
                self.leads(pair, great)
                self.leads(great, pair)
                for other in small:
                    if other != pair:
                        self.assertIsNone(leading(great, other))
                        self.assertIsNone(leading(other, great))

    def test_32_great_steps_that_are_short(self):
        pair = ((BIG, 7), (-11, BIG - 5))
        for other in [turned(pair), mirrored(pair), changed(pair, ((2, 3), (3, 5)))]:
            self.leads(pair, other)
            self.leads(other, pair)
        self.assertIsNone(leading(pair, ((BIG, 7), (-11, BIG - 4))))
        self.assertIs(is_leading(((1, 0), (0, 1)), pair, ((BIG, 7), (-11, BIG - 4))), False)

    def test_3_leadings_of_whatever_size(self):
        for start in [((1, 0), (0, 1)), ((4, 0), (2, 5)), ((3, 1), (-2, 4))]:
            great = moved(start, [("less", -BIG), ("turn",)] * 15)
            self.leads(great, start)
            self.leads(start, great)
            self.assertIs(is_leading(leading(start, great), great, start), False)

    def test_5_no_pair_ahead_of_all_else(self):
        pair = ((1, 0), (0, 1))
        for thing in STRANGE + POINTS + THREES:
            self.refused(NoPair, leading, thing, pair)
            self.refused(NoPair, leading, pair, thing)
            self.refused(NoPair, leading, thing, thing)
            for way in [pair, None, [], ((1, 2), (2, 4))]:
                self.refused(NoPair, is_leading, way, thing, pair)
                self.refused(NoPair, is_leading, way, pair, thing)
            self.refused(NoPair, is_leading, thing, thing, thing)


class OrderTest(Case):

    def test_33_in_order(self):
        for one, other in [
                ((1, 0, 1), (1, 0, 2)), ((1, 0, 9), (2, 0, 2)), ((2, 0, 2), (2, 1, 2)),
                ((2, 1, 2), (2, 0, 3)), ((2, 1, 3), (3, 0, 3)), ((4, 2, 7), (4, 0, 8)),
                ((4, 1, 7), (4, 2, 7)), ((4, 2, 8), (5, 0, 5)), ((9, 4, 9), (10, 0, 10)),
                ((1, 0, BIG), (2, 0, 2)), ((BIG - 1, BIG // 2, BIG), (BIG, 0, BIG))]:
            with self.subTest(one=one, other=other):
                self.assertIs(is_ahead(one, other), True)
                self.assertIs(is_ahead(other, one), False)

    def test_33_no_shape_is_ahead_of_itself(self):
        for one in SHAPES:
            self.assertIs(is_ahead(one, one), False)
            self.assertIs(is_ahead(one, tuple(list(one))), False)

    def test_33_all_small_shapes(self):
        shapes = [
            (a, b, c) for a, b, c in itertools.product(range(1, 7), range(0, 4), range(1, 9))
            if 2 * b <= a <= c]
        for one, other in itertools.product(shapes, repeat=2):
            (a, b, c), (d, e, f) = one, other
            told = a < d if a != d else (c < f if c != f else b < e)
            self.assertIs(is_ahead(one, other), told, (one, other))

    def test_33_the_room_times_itself(self):
        for thing, told in [
                ((1, 0, 1), 1), ((2, 1, 2), 3), ((2, 0, 2), 4), ((4, 2, 5), 16), ((5, 2, 5), 21),
                ((10, 2, 20), 196), ((1, 0, BIG), BIG), ((BIG, 0, BIG), BIG * BIG),
                ((BIG, BIG // 2, BIG), BIG * BIG - (BIG // 2) ** 2)]:
            with self.subTest(thing=thing):
                self.assertEqual(room_squared(thing), told)
                self.is_plain(room_squared(thing), int)

    def test_33_it_is_the_room_of_the_pair_times_itself(self):
        great = [changed(PAIRS[2], way) for way in WAYS + GREAT_WAYS]
        for pair in itertools.chain(small_pairs(-2, 2), PAIRS, great):
            self.assertEqual(room_squared(shape(pair)), det(pair) ** 2, pair)

    def test_33_no_shape(self):
        for thing in STRANGE + POINTS + PAIRS + THREES + NO_SHAPES:
            self.refused(NoShape, room_squared, thing)
            self.refused(NoShape, is_ahead, thing, (2, 1, 2))
            self.refused(NoShape, is_ahead, (2, 1, 2), thing)
            self.refused(NoShape, is_ahead, thing, thing)
            self.refused(NoShape, is_ahead, (9, 0, 9), thing)


if __name__ == "__main__":
    unittest.main()
