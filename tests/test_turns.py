"""Points 41 to 43: keepers of a pair, done one behind the other, undone, and mirrors."""

import itertools
import unittest

from shortsteps.errors import NoKeeper, NoPair
from shortsteps.grids import is_same
from shortsteps.short import moved
from shortsteps.turns import behind, is_keeper, keepers, mirrors_many, often, undoing
from tests.things import (
    BIG, GREAT_WAYS, PAIRS, POINTS, STRANGE, THREES, WAYS, Case, changed, det, dot,
    grid_points, is_int, products_by_words, shape_by_words, small_pairs)

UNIT = ((1, 0), (0, 1))
ABOUT = ((-1, 0), (0, -1))
EIGHT = [
    ((-1, 0), (0, -1)), ((-1, 0), (0, 1)), ((0, -1), (-1, 0)), ((0, -1), (1, 0)),
    ((0, 1), (-1, 0)), ((0, 1), (1, 0)), ((1, 0), (0, -1)), ((1, 0), (0, 1))]
UPRIGHT = [ABOUT, ((-1, 0), (0, 1)), ((1, 0), (0, -1)), UNIT]

# Pairs and their keepers.
KNOWN = [
    (((1, 0), (0, 1)), EIGHT), (((0, 1), (1, 0)), EIGHT), (((2, 1), (-1, 2)), EIGHT),
    (((BIG, 0), (0, BIG)), EIGHT), (((BIG, 1), (-1, BIG)), EIGHT),
    (((1, 0), (1, 1)), [
        ((-1, 0), (-2, 1)), ((-1, 0), (0, -1)), ((-1, 1), (-2, 1)), ((-1, 1), (0, 1)),
        ((1, -1), (0, -1)), ((1, -1), (2, -1)), ((1, 0), (0, 1)), ((1, 0), (2, -1))]),
    (((1, 0), (0, 2)), UPRIGHT), (((0, 3), (1, 0)), UPRIGHT),
    (((3, -1), (2, 6)), UPRIGHT), (((0, -BIG), (1, 0)), UPRIGHT),
    (((2, 0), (1, 2)), [((-1, 0), (-1, 1)), ABOUT, UNIT, ((1, 0), (1, -1))]),
    (((2, 0), (-1, 2)), [ABOUT, ((-1, 0), (1, 1)), ((1, 0), (-1, -1)), UNIT]),
    (((8, 1), (1, 8)), [ABOUT, ((0, -1), (-1, 0)), ((0, 1), (1, 0)), UNIT]),
    (((8, 1), (-1, -8)), [ABOUT, ((0, -1), (-1, 0)), ((0, 1), (1, 0)), UNIT]),
    (((3, 1), (-2, 4)), [ABOUT, UNIT]), (((5, 0), (2, 6)), [ABOUT, UNIT]),
    (((2, 6), (-5, 0)), [ABOUT, UNIT]), (((BIG, 0), (3, BIG)), [ABOUT, UNIT]),
]


def keepers_by_points(pair):
    """All keepers, found by looking at all points about nought that are as long as the steps."""
    whole = det(pair)
    first, second = pair
    points = grid_points(pair, 5)
    firsts = [point for point in points if dot(point, point) == dot(first, first)]
    seconds = [point for point in points if dot(point, point) == dot(second, second)]

    def numbers(point):
        return (det((point, second)) // whole, det((first, point)) // whole)

    return sorted(
        (numbers(one), numbers(other)) for one in firsts for other in seconds
        if dot(one, other) == dot(first, second))


def keeps_by_words(thing, pair):
    """Whether a tuple of tuples of numbers is a keeper, by the words of 32 and 41."""
    return (det(thing) in (1, -1)
            and products_by_words(changed(pair, thing)) == products_by_words(pair))


def many_by_shape(pair):
    """How many keepers a pair has, by its shape."""
    a, b, c = shape_by_words(pair)
    edges = [b == 0, 2 * b == a, a == c]
    return {0: 2, 1: 4, 2: 8}[sum(edges)]


def way_back(way):
    (p, q), (r, s) = way
    sign = det(way)
    return ((sign * s, -sign * q), (-sign * r, sign * p))


class KeepersTest(Case):

    def test_41_keepers(self):
        for pair, told in KNOWN:
            with self.subTest(pair=pair):
                now = keepers(pair)
                self.assertEqual(now, told)
                self.is_plain(now, list)
                for keeper in now:
                    self.is_plain(keeper, tuple)
                    for row in keeper:
                        self.is_plain(row, tuple)
                        for number in row:
                            self.is_plain(number, int)

    def test_41_all_keepers_by_looking_at_the_points(self):
        seen = {}
        for pair in itertools.islice(small_pairs(-3, 3), 0, None, 3):
            told = keepers_by_points(pair)
            self.assertEqual(keepers(pair), told, pair)
            seen[len(told)] = True
        self.assertEqual(sorted(seen), [2, 4, 8])

    def test_41_just_the_keepers(self):
        ways = [(row[:2], row[2:]) for row in itertools.product(range(-2, 3), repeat=4)]
        for pair in [known for known, _ in KNOWN] + [((2, 1), (1, 2)), ((3, 1), (1, 0))]:
            for way in ways:
                self.assertIs(is_keeper(way, pair), keeps_by_words(way, pair), (way, pair))

    def test_41_no_keepers(self):
        for pair in [((1, 0), (0, 1)), ((3, 1), (-2, 4)), ((1, 0), (0, 2))]:
            for thing in [
                    [(1, 0), (0, 1)], [[1, 0], [0, 1]], ([1, 0], (0, 1)), ((1, 0), [0, 1]),
                    ((True, 0), (0, 1)), ((1, False), (0, 1)), ((1, 0), (False, 1)),
                    ((1, 0), (0, True)), ((1, 0, 0), (0, 1, 0)), ((1, 0), (0, 1), (0, 0)),
                    ((1, 0),), (1, 0, 0, 1), {(1, 0): 0, (0, 1): 1}, (("1", "0"), ("0", "1")),
                    ((1, 0, 0), (0, 1, 0), (0, 0, 1)), ((0, 0), (0, 0)), ((1, 0), (1, 0)),
                    ((1, 0), (BIG, 1)), ((2, 0), (0, 2)), ((0, 0), (0, 1)), (((1, 0), (0, 1)),)]:
                self.assertIs(is_keeper(thing, pair), False, (thing, pair))

    def test_41_no_keeper_of_whatever_kind(self):
        pair = ((1, 0), (0, 1))
        for thing in STRANGE + POINTS + THREES:
            self.assertIs(is_keeper(thing, pair), False, thing)
            self.assertIs(is_keeper((thing, (0, 1)), pair), False, thing)
            self.assertIs(is_keeper(((thing, 0), (0, 1)), pair), is_int(thing, 1, -1), thing)
            self.assertIs(is_keeper(((1, 0), (thing, 1)), pair), is_int(thing, 0), thing)

    def test_41_a_pair_is_no_keeper_of_itself(self):
        for pair in PAIRS:
            self.assertIs(is_keeper(pair, pair), keeps_by_words(pair, pair), pair)

    def test_41_the_same_turns_for_all_pairs_of_a_grid(self):
        small = [((1, 0), (0, 1)), ((1, 0), (0, 2)), ((2, 0), (1, 2)), ((3, 1), (1, 3)),
                 ((3, 1), (-2, 4)), ((-1, 2), (3, 3)), ((2, -3), (3, 2))]
        for pair in small:
            told = keepers_by_points(pair)
            for way in WAYS + GREAT_WAYS:
                great = changed(pair, way)
                back = way_back(way)
                self.assertEqual(
                    keepers(great),
                    sorted(changed(changed(back, keeper), way) for keeper in told), great)

    def test_41_numbers_of_fourteen_figures(self):
        for a, b, c, d in itertools.product(
                [31415926535897, 99999999999999, 5], [14142135623730, 0], [-99999999999998, 0],
                [22360679774997, 10 ** 13, 14142135623731]):
            pair = ((a, b), (c, d))
            told = keepers(pair)
            self.assertEqual(len(told), many_by_shape(pair), pair)
            for keeper in told:
                self.assertTrue(keeps_by_words(keeper, pair), (keeper, pair))

    def test_41_rising_and_each_once(self):
        for pair in itertools.chain(itertools.islice(small_pairs(-3, 3), 0, None, 5), PAIRS):
            told = keepers(pair)
            self.assertEqual(told, sorted(set(told)), pair)
            self.assertEqual(len(told), many_by_shape(pair), pair)
            self.assertIn(UNIT, told)
            self.assertIn(ABOUT, told)
            for keeper in told:
                self.assertIs(is_keeper(keeper, pair), True, pair)

    def test_6_what_is_told_as_a_keeper_keeps_all_products(self):
        for pair in PAIRS + [((2, 1), (-1, 2)), ((2, 0), (1, 2)), ((8, 1), (1, 8))]:
            for keeper in keepers(pair):
                self.assertTrue(keeps_by_words(keeper, pair), (keeper, pair))
                now = changed(pair, keeper)
                self.assertIs(is_same(pair, now), True)
                for one, other in itertools.product([(1, 0), (2, -3), (5, 7)], repeat=2):
                    self.assertEqual(
                        dot(*changed(pair, (one, other))), dot(*changed(now, (one, other))))

    def test_3_keepers_of_what_was_told_whatever_its_size(self):
        for start, many in [(((1, 0), (0, 1)), 8), (((4, 0), (2, 5)), 4), (((3, 1), (-2, 4)), 2)]:
            great = moved(start, [("less", -BIG), ("turn",)] * 15)
            told = keepers(great)
            self.assertEqual(len(told), many)
            self.assertEqual(mirrors_many(great), many // 2 if many > 2 else 0)
            for keeper in told:
                self.assertTrue(keeps_by_words(keeper, great))
                self.assertIs(is_keeper(keeper, great), True)
                self.assertEqual(behind(great, keeper, undoing(great, keeper)), UNIT)
                self.assertIn(often(great, keeper), (1, 2, 4))

    def test_41_no_pair(self):
        for thing in STRANGE + POINTS + THREES:
            self.refused(NoPair, keepers, thing)
            self.refused(NoPair, mirrors_many, thing)
            for way in [UNIT, None, [], ((1, 2), (2, 4)), thing]:
                self.refused(NoPair, is_keeper, way, thing)


class BehindTest(Case):

    def test_42_one_behind_the_other(self):
        square = ((1, 0), (0, 1))
        turn, flip = ((0, 1), (-1, 0)), ((1, 0), (0, -1))
        for one, other, told in [
                (turn, flip, ((0, 1), (1, 0))), (flip, turn, ((0, -1), (-1, 0))),
                (turn, turn, ABOUT), (flip, flip, UNIT), (turn, UNIT, turn), (UNIT, flip, flip),
                (ABOUT, turn, ((0, -1), (1, 0))), (turn, ((0, -1), (1, 0)), UNIT)]:
            with self.subTest(one=one, other=other):
                self.assertEqual(behind(square, one, other), told)
                self.is_plain(behind(square, one, other), tuple)
                self.is_plain(behind(square, one, other)[0], tuple)
        slanted = ((1, 0), (1, 1))
        self.assertEqual(
            behind(slanted, ((-1, 0), (-2, 1)), ((-1, 1), (0, 1))), ((-1, 1), (-2, 1)))
        self.assertEqual(
            behind(slanted, ((-1, 1), (0, 1)), ((-1, 0), (-2, 1))), ((1, -1), (2, -1)))

    def test_42_it_leads_to_where_both_lead(self):
        great = [changed(((2, 1), (-1, 2)), way) for way in WAYS + GREAT_WAYS]
        some = itertools.islice(small_pairs(-2, 2), 0, None, 7)
        for pair in itertools.chain(some, [known for known, _ in KNOWN], great):
            all_of_them = keepers(pair)
            for one, other in itertools.product(all_of_them, repeat=2):
                told = behind(pair, one, other)
                self.assertIn(told, all_of_them)
                self.assertEqual(
                    changed(pair, told), changed(changed(pair, one), other), (pair, one, other))

    def test_42_undone(self):
        great = [changed(((2, 1), (-1, 2)), way) for way in WAYS + GREAT_WAYS]
        for pair in itertools.chain(itertools.islice(small_pairs(-2, 2), 0, None, 5), great):
            all_of_them = keepers(pair)
            for keeper in all_of_them:
                told = undoing(pair, keeper)
                self.assertIn(told, all_of_them)
                self.is_plain(told, tuple)
                self.is_plain(told[0], tuple)
                self.assertEqual(changed(changed(pair, keeper), told), pair, keeper)
                self.assertEqual(changed(changed(pair, told), keeper), pair, keeper)
                self.assertEqual(behind(pair, keeper, told), UNIT)

    def test_42_undone_turns(self):
        square = ((1, 0), (0, 1))
        self.assertEqual(undoing(square, ((0, 1), (-1, 0))), ((0, -1), (1, 0)))
        self.assertEqual(undoing(square, ((0, -1), (1, 0))), ((0, 1), (-1, 0)))
        for keeper in [UNIT, ABOUT, ((0, 1), (1, 0)), ((0, -1), (-1, 0)), ((1, 0), (0, -1))]:
            self.assertEqual(undoing(square, keeper), keeper)
        self.assertEqual(undoing(((1, 0), (1, 1)), ((-1, 1), (-2, 1))), ((1, -1), (2, -1)))

    def test_42_how_often(self):
        square = ((1, 0), (0, 1))
        for keeper, told in [
                (UNIT, 1), (ABOUT, 2), (((0, 1), (-1, 0)), 4), (((0, -1), (1, 0)), 4),
                (((0, 1), (1, 0)), 2), (((0, -1), (-1, 0)), 2), (((1, 0), (0, -1)), 2),
                (((-1, 0), (0, 1)), 2)]:
            with self.subTest(keeper=keeper):
                self.assertEqual(often(square, keeper), told)
                self.is_plain(often(square, keeper), int)

    def test_42_how_often_till_all_is_as_at_first(self):
        great = [changed(((2, 1), (-1, 2)), way) for way in WAYS + GREAT_WAYS]
        seen = {}
        for pair in itertools.chain(itertools.islice(small_pairs(-2, 2), 0, None, 5), great):
            for keeper in keepers(pair):
                here, times = changed(pair, keeper), 1
                while here != pair:
                    here, times = changed(here, keeper), times + 1
                self.assertEqual(often(pair, keeper), times, (pair, keeper))
                seen[times] = True
        self.assertEqual(sorted(seen), [1, 2, 4])

    def test_42_no_keeper(self):
        pair = ((3, 1), (-2, 4))
        others = [((0, 1), (1, 0)), ((1, 0), (0, -1)), ((0, 1), (-1, 0)), ((1, 2), (2, 4))]
        for thing in STRANGE + POINTS + THREES + PAIRS + others:
            if thing in (UNIT, ABOUT) and keeps_by_words(thing, pair):
                continue
            self.refused(NoKeeper, behind, pair, thing, UNIT)
            self.refused(NoKeeper, behind, pair, UNIT, thing)
            self.refused(NoKeeper, behind, pair, ABOUT, thing)
            self.refused(NoKeeper, behind, pair, thing, thing)
            self.refused(NoKeeper, undoing, pair, thing)
            self.refused(NoKeeper, often, pair, thing)

    def test_42_keepers_of_one_pair_and_not_of_another_one(self):
        square, slanted = ((1, 0), (0, 1)), ((1, 0), (1, 1))
        for pair, keeper in [(square, ((-1, 1), (-2, 1))), (slanted, ((0, 1), (-1, 0))),
                             (((1, 0), (0, 2)), ((0, 1), (1, 0)))]:
            self.refused(NoKeeper, behind, pair, keeper, keeper)
            self.refused(NoKeeper, undoing, pair, keeper)
            self.refused(NoKeeper, often, pair, keeper)

    def test_5_no_pair_ahead_of_no_keeper(self):
        for thing in STRANGE + POINTS + THREES:
            for keeper in [UNIT, None, [], ((0, 0), (0, 0)), (True, 1), thing]:
                self.refused(NoPair, behind, thing, keeper, UNIT)
                self.refused(NoPair, behind, thing, UNIT, keeper)
                self.refused(NoPair, undoing, thing, keeper)
                self.refused(NoPair, often, thing, keeper)


class MirrorsTest(Case):

    def test_43_mirrors(self):
        for pair, told in KNOWN:
            with self.subTest(pair=pair):
                self.assertEqual(mirrors_many(pair), {2: 0, 4: 2, 8: 4}[len(told)])
                self.is_plain(mirrors_many(pair), int)

    def test_43_none_or_half_of_all(self):
        great = [changed(pair, way) for way in WAYS + GREAT_WAYS
                 for pair in [((2, 1), (-1, 2)), ((1, 0), (0, 2)), ((3, 1), (-2, 4))]]
        some = itertools.islice(small_pairs(-3, 3), 0, None, 13)
        for pair in itertools.chain(some, PAIRS, great):
            all_of_them = keepers(pair)
            told = len([keeper for keeper in all_of_them if det(keeper) == -1])
            self.assertEqual(mirrors_many(pair), told, pair)
            self.assertEqual(told, {2: 0, 4: 2, 8: 4}[many_by_shape(pair)], pair)


if __name__ == "__main__":
    unittest.main()
