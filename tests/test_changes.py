"""Points 91 to 94: pairs grown, turned and mirrored, and the mates of a grid."""

import itertools
import unittest

from shortsteps.changes import grown, keeps_mirrored, keeps_turned, mates, mirrored, turned
from shortsteps.errors import NoNumber, NoPair
from shortsteps.grids import is_same
from shortsteps.parts import flat
from shortsteps.shapes import shape
from shortsteps.short import moved, short_pair
from tests.things import (
    BIG, GREAT_WAYS, PAIRS, POINTS, STRANGE, THREES, WAYS, Case, changed, det, dot,
    grid_points, is_int, plane, shape_by_words, small_pairs)

UNIT = ((1, 0), (0, 1))

# By whether each grid stays turned, and whether it stays mirrored.
KINDS = {
    (True, True): [
        UNIT, ((2, 0), (1, 1)), ((3, 0), (0, 3)), ((5, 8), (3, 5)), ((2, 2), (-2, 2)),
        ((BIG, 0), (0, BIG)), ((0, BIG), (BIG, 0)), ((BIG, BIG), (BIG, -BIG))],
    (True, False): [
        ((2, 1), (-1, 2)), ((1, 2), (-2, 1)), ((3, 1), (-1, 3)), ((4, 1), (-1, 4)),
        ((1, 3), (0, 10)), ((BIG, 1), (-1, BIG)), ((3 * BIG, -BIG), (BIG, 3 * BIG))],
    (False, True): [
        ((1, 0), (0, 2)), ((2, 0), (0, 1)), ((2, 0), (1, 2)), ((3, 1), (3, -1)), ((0, 5), (1, 0)),
        ((BIG, 0), (0, 1)), ((BIG - 1, 7), (1 - BIG, 7)), ((2, 1), (0, 2))],
    (False, False): [
        ((3, 1), (-2, 4)), ((3, 0), (1, 1)), ((2, 1), (1, 2)), ((4, 0), (1, 1)), ((1, 1), (0, 5)),
        ((BIG, 1), (0, 5)), ((BIG, 3), (-10 ** 29, 8)), ((1, 1), (0, 7))],
}

FUNCTIONS = [turned, mirrored, keeps_turned, keeps_mirrored, mates]


def turned_points(points):
    """Points turned by the words of point 91."""
    return sorted((0 - y, x) for x, y in points)


def mirrored_points(points):
    """Points mirrored by the words of point 91."""
    return sorted((x, 0 - y) for x, y in points)


def mates_by_looking(pair, reach):
    """The points about nought whose products with both steps are so many times the room."""
    room = abs(det(pair))
    return [
        point for point in plane(reach)
        if all(dot(point, step) % room == 0 for step in pair)]


class ChangesCase(Case):

    def is_plain_pair(self, told):
        self.is_plain(told, tuple)
        self.assertEqual(len(told), 2)
        for step in told:
            self.is_plain(step, tuple)
            self.assertEqual([type(number) for number in step], [int, int])


class ChangedTest(ChangesCase):

    def test_91_grown(self):
        for pair, number, told in [
                (UNIT, 1, UNIT), (UNIT, 9, ((9, 0), (0, 9))),
                (((3, 1), (-2, 4)), 2, ((6, 2), (-4, 8))), (((0, -7), (4, 2)), 3, (
                    (0, -21), (12, 6))),
                (((BIG, 0), (1, -BIG)), 9, ((9 * BIG, 0), (9, -9 * BIG)))]:
            with self.subTest(pair=pair, number=number):
                self.assertEqual(grown(pair, number), told)
                self.is_plain_pair(grown(pair, number))

    def test_91_turned(self):
        for pair, told in [
                (UNIT, ((0, 1), (-1, 0))), (((3, 1), (-2, 4)), ((-1, 3), (-4, -2))),
                (((0, -7), (4, 2)), ((7, 0), (-2, 4))),
                (((BIG, 0), (1, -BIG)), ((0, BIG), (BIG, 1)))]:
            with self.subTest(pair=pair):
                self.assertEqual(turned(pair), told)
                self.is_plain_pair(turned(pair))

    def test_91_mirrored(self):
        for pair, told in [
                (UNIT, ((1, 0), (0, -1))), (((3, 1), (-2, 4)), ((3, -1), (-2, -4))),
                (((0, -7), (4, 2)), ((0, 7), (4, -2))),
                (((BIG, 0), (1, -BIG)), ((BIG, 0), (1, BIG)))]:
            with self.subTest(pair=pair):
                self.assertEqual(mirrored(pair), told)
                self.is_plain_pair(mirrored(pair))

    def test_91_each_by_its_words(self):
        great = [changed(((3, 1), (-2, 4)), way) for way in WAYS + GREAT_WAYS]
        for pair in itertools.chain(small_pairs(-2, 2), PAIRS, great):
            (a, b), (c, d) = pair
            self.assertEqual(turned(pair), ((0 - b, a), (0 - d, c)), pair)
            self.assertEqual(mirrored(pair), ((a, 0 - b), (c, 0 - d)), pair)
            for number in range(1, 10):
                told = ((number * a, number * b), (number * c, number * d))
                self.assertEqual(grown(pair, number), told, (pair, number))

    def test_3_pairs_of_whatever_size(self):
        great = moved(((3, 1), (-2, 4)), [("less", -BIG), ("turn",)] * 20)
        (a, b), (c, d) = great
        self.assertEqual(turned(great), ((-b, a), (-d, c)))
        self.assertEqual(mirrored(great), ((a, -b), (c, -d)))
        self.assertEqual(grown(great, 9), ((9 * a, 9 * b), (9 * c, 9 * d)))
        here = UNIT
        for _ in range(60):
            here = grown(here, 9)
        self.assertEqual(here, ((9 ** 60, 0), (0, 9 ** 60)))
        self.assertIs(is_same(turned(great), turned(((3, 1), (-2, 4)))), True)
        self.assertIs(keeps_turned(great), False)
        self.assertIs(keeps_mirrored(great), False)
        self.assertEqual(mates(great), mates(((3, 1), (-2, 4))))

    def test_91_no_pair(self):
        for thing in STRANGE + POINTS + THREES:
            for function in FUNCTIONS:
                self.refused(NoPair, function, thing)
            for number in [1, 9]:
                self.refused(NoPair, grown, thing, number)

    def test_91_no_number(self):
        others = [0, 10, 11, -1, -9, 10 ** 6, True, False, "1", [1], (1,), None]
        for thing in STRANGE + POINTS + PAIRS + THREES + others:
            if not is_int(thing, 1, 7):
                for pair in [UNIT, ((3, 1), (-2, 4)), ((BIG, 0), (0, BIG))]:
                    self.refused(NoNumber, grown, pair, thing)

    def test_5_no_pair_ahead_of_no_number(self):
        for thing in STRANGE + POINTS + THREES:
            for number in [0, 10, -1, True, None, "1", thing]:
                self.refused(NoPair, grown, thing, number)


class KeepsTest(ChangesCase):

    def test_92_grids_that_stay_turned_mirrored_both_and_neither(self):
        for (turns, mirrors), pairs in KINDS.items():
            for pair in pairs:
                for one in [pair, pair[::-1], changed(pair, ((1, 0), (3, 1)))]:
                    self.assertIs(keeps_turned(one), turns, one)
                    self.assertIs(keeps_mirrored(one), mirrors, one)

    def test_92_small_pairs_by_looking_at_the_points(self):
        seen = {}
        for pair in itertools.islice(small_pairs(-3, 3), 0, None, 5):
            # A grid repeats after its room to each side, which is 18 at most.
            points = grid_points(pair, 9)
            turns = turned_points(points) == points
            mirrors = mirrored_points(points) == points
            seen[(turns, mirrors)] = True
            self.assertIs(keeps_turned(pair), turns, pair)
            self.assertIs(keeps_mirrored(pair), mirrors, pair)
        self.assertEqual(len(seen), 4)

    def test_92_great_steps_of_small_grids(self):
        for (turns, mirrors), pairs in KINDS.items():
            for pair, way in itertools.product(pairs, WAYS + GREAT_WAYS):
                great = changed(pair, way)
                self.assertIs(keeps_turned(great), turns, great)
                self.assertIs(keeps_mirrored(great), mirrors, great)

    def test_92_the_changed_grid_is_the_same_just_where_it_is_told(self):
        for pair in itertools.chain(itertools.islice(small_pairs(-3, 3), 0, None, 17), PAIRS):
            self.assertIs(keeps_turned(pair), is_same(turned(pair), pair))
            self.assertIs(keeps_mirrored(pair), is_same(mirrored(pair), pair))


class MatesTest(ChangesCase):

    def test_93_mates(self):
        for pair, told in [
                (UNIT, UNIT), (((2, 0), (0, 3)), ((3, 0), (0, 2))), (((5, 8), (3, 5)), UNIT),
                (((3, 1), (-2, 4)), ((1, 11), (0, 14))), (((2, 0), (1, 1)), ((1, 1), (0, 2))),
                (((2, 1), (-1, 2)), ((1, 3), (0, 5))), (((0, 1), (BIG, 0)), ((1, 0), (0, BIG))),
                (((3, 0), (1, 1)), ((1, 2), (0, 3))), (((6, 0), (0, 6)), ((6, 0), (0, 6)))]:
            with self.subTest(pair=pair):
                self.assertEqual(mates(pair), told)
                self.is_plain_pair(mates(pair))

    def test_93_small_pairs_by_looking_at_the_products(self):
        for pair in itertools.islice(small_pairs(-3, 3), 0, None, 7):
            told = mates(pair)
            (a, b), (nought, d) = told
            self.assertTrue(nought == 0 and a >= 1 and 0 <= b < d, told)
            # The square holds the whole flat pair, and so the whole grid.
            reach = abs(det(pair))
            self.assertEqual(grid_points(told, reach), mates_by_looking(pair, reach), pair)

    def test_93_products_with_each_point_of_the_grid(self):
        for pair in [((3, 1), (-2, 4)), ((2, 1), (1, 2)), ((4, 0), (2, 5)), ((0, -7), (4, 2))]:
            points, room = grid_points(pair, 12), abs(det(pair))
            told = [
                point for point in plane(20)
                if all(dot(point, one) % room == 0 for one in points)]
            self.assertEqual(grid_points(mates(pair), 20), told)

    def test_93_great_steps(self):
        for pair in [((3, 1), (-2, 4)), ((2, 0), (1, 2)), ((3, 0), (1, 1))]:
            told = mates(pair)
            self.assertEqual(grid_points(told, 14), mates_by_looking(pair, 14))
            for way in WAYS + GREAT_WAYS:
                self.assertEqual(mates(changed(pair, way)), told)
        for pair in PAIRS:
            room = abs(det(pair))
            told = mates(pair)
            for point, step in itertools.product(told, pair):
                self.assertEqual(dot(point, step) % room, 0)
            # They are no less than all mates: those have just the grid's room.
            self.assertEqual(abs(det(told)), room)

    def test_94_the_mates_are_the_grid_turned_and_their_mates_the_grid(self):
        great = [changed(((3, 1), (-2, 4)), way) for way in WAYS + GREAT_WAYS]
        for pair in itertools.chain(itertools.islice(small_pairs(-3, 3), 0, None, 11), PAIRS, great):
            self.assertEqual(mates(pair), flat(turned(pair)), pair)
            self.assertIs(is_same(mates(pair), turned(pair)), True)
            self.assertEqual(mates(mates(pair)), flat(pair), pair)
            self.assertIs(is_same(mates(mates(pair)), pair), True)
            self.assertIs(mates(pair) == flat(pair), keeps_turned(pair), pair)

    def test_94_shapes(self):
        great = [changed(((4, 0), (2, 5)), way) for way in WAYS + GREAT_WAYS]
        for pair in itertools.chain(itertools.islice(small_pairs(-3, 3), 0, None, 23), PAIRS, great):
            told = shape_by_words(pair)
            self.assertEqual(shape(turned(pair)), told, pair)
            self.assertEqual(shape(mirrored(pair)), told, pair)
            self.assertEqual(shape(mates(pair)), told, pair)
            for number in range(1, 10):
                more = tuple(number * number * part for part in told)
                self.assertEqual(shape(grown(pair, number)), more, (pair, number))

    def test_94_changes_one_behind_the_other(self):
        for pair in PAIRS + [short_pair(pair) for pair in PAIRS]:
            opposite = tuple((-x, -y) for x, y in pair)
            self.assertEqual(turned(turned(pair)), opposite)
            self.assertEqual(mirrored(mirrored(pair)), pair)
            self.assertEqual(turned(mirrored(turned(pair))), mirrored(pair))
            self.assertEqual(grown(grown(pair, 2), 3), grown(pair, 6))


if __name__ == "__main__":
    unittest.main()
