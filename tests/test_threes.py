"""Points 61 to 64: fours of three steps, folded till they are blunt, and least points in space."""

import itertools
import unittest

from shortsteps.errors import NoFour, NoMoves, NoThree
from shortsteps.grids import is_same, is_steps
from shortsteps.threes import blunt_four, folded, folds_for, is_blunt, is_four, least_of_three
from tests.things import (
    BIG, PAIRS, POINTS, STRANGE, THREES, Case, changed, det, dot, is_int, small_threes)

UNIT = ((1, 0, 0), (0, 1, 0), (0, 0, 1))
PLACES = list(itertools.combinations(range(4), 2))
FOLDS = list(itertools.permutations(range(4), 2))

# Ways from three steps to other ones of the same grid: their determinant is 1 or -1.
WAYS = [
    ((0, 1, 0), (1, 0, 0), (0, 0, 1)), ((-1, 0, 0), (0, 1, 0), (0, 0, 1)),
    ((1, 1, 0), (0, 1, 1), (0, 0, 1)), ((2, 1, 0), (3, 2, 0), (5, -7, 1)),
    ((1, 0, 0), (12, 1, 0), (-31, 17, 1)), ((5, 8, 0), (3, 5, 1), (0, 0, -1)),
    ((1, 150, -3), (0, 1, 40), (0, 0, 1)), ((1, 0, 0), (0, 1, 0), (300, -200, 1)),
    ((9, 4, 2), (2, 1, 0), (7, 3, 3)), ((13, 21, 34), (8, 13, 21), (0, 1, 2)),
]


def lies_in_three(point, steps):
    """Whether a point is one of the grid, by determinants."""
    whole = det(steps)
    return all(
        det(steps[:at] + (point,) + steps[at + 1:]) % whole == 0 for at in range(3))


def is_four_by_words(four, steps):
    """Whether a tuple of four points of width three is a four, by the words of 61."""
    three = four[:3]
    if [sum(numbers) for numbers in zip(*four)] != [0, 0, 0] or det(three) == 0:
        return False
    return (all(lies_in_three(point, steps) for point in three)
            and all(lies_in_three(step, three) for step in steps))


def blunt_by_words(four):
    return all(dot(four[i], four[j]) <= 0 for i, j in PLACES)


def fold_by_words(four, fold):
    """What comes where a four is folded, by the words of 62."""
    i, j = fold
    told = list(four)
    told[i] = tuple(-number for number in four[i])
    for at in range(4):
        if at not in (i, j):
            told[at] = tuple(a + b for a, b in zip(four[at], four[i]))
    return tuple(told)


def lengths(four):
    return sum(dot(point, point) for point in four)


def four_of(steps):
    """The four of the steps and of the opposite of what they come to together."""
    return steps + (tuple(-sum(numbers) for numbers in zip(*steps)),)


def reduced(steps):
    """Steps of the same grid that cannot be made shorter one by one, found apart from the program."""
    here = list(steps)
    ways = list(itertools.product(range(-1, 2), repeat=2))
    found = True
    while found:
        found = False
        for at in range(3):
            one, other = [here[k] for k in range(3) if k != at]
            for step in (one, other):
                k = (2 * dot(here[at], step) + dot(step, step)) // (2 * dot(step, step))
                shorter = tuple(a - k * b for a, b in zip(here[at], step))
                if dot(shorter, shorter) < dot(here[at], here[at]):
                    here[at], found = shorter, True
            for m, n in ways:
                shorter = tuple(a + m * b + n * c for a, b, c in zip(here[at], one, other))
                if dot(shorter, shorter) < dot(here[at], here[at]):
                    here[at], found = shorter, True
    return tuple(here)


def least_by_looking(steps):
    """The least points, looked for among what takes each step of short ones thrice at most."""
    numbers = [row for row in itertools.product(range(-3, 4), repeat=3) if any(row)]
    points = changed(reduced(steps), numbers)
    least = min(dot(point, point) for point in points)
    return sorted(point for point in points if dot(point, point) == least)


def strewn(many, greatest):
    """So many three steps of numbers up to the greatest one, without an order to be seen."""
    seed, told = 12345, []
    while len(told) < many:
        row = []
        for _ in range(9):
            seed = (seed * 1103515245 + 12345) % 2 ** 31
            row.append((seed >> 8) % (2 * greatest + 1) - greatest)
        steps = (tuple(row[:3]), tuple(row[3:6]), tuple(row[6:]))
        if det(steps) != 0:
            told.append(steps)
    return told


# Steps of numbers to 999 of which some take many folds.
WIDE = [
    ((1, 0, 0), (999, 1, 0), (0, 0, 1)), ((1, 0, 0), (0, 1, 0), (999, -998, 1)),
    ((1, 0, 0), (0, 1, 0), (0, 0, 999)), ((999, 0, 0), (0, 999, 0), (0, 0, 999)),
    ((999, 998, 997), (-996, 995, 994), (993, -992, 991)), ((999, 0, 1), (0, 999, 1), (1, 1, 999)),
    ((-999, -999, -998), (-999, -998, -999), (-998, -999, -999)),
    ((999, 999, 0), (999, 0, 999), (0, 999, 999)), ((-999, 999, 999), (999, -999, 999), (999, 999, -999)),
    ((2, 0, 0), (0, 2, 0), (999, 999, 1)), ((987, 610, 377), (610, 377, 233), (1, 0, 2)),
]
FEW = [
    UNIT, ((1, 1, 0), (1, 0, 1), (0, 1, 1)), ((-1, 1, 1), (1, -1, 1), (1, 1, -1)),
    ((3, 1, 0), (-2, 4, 1), (0, 5, -6)), ((-2, 0, 0), (0, -3, 0), (0, 0, -5)),
    ((1, -1, 0), (0, 1, -1), (5, 5, 5)), ((1, 2, 3), (0, -1, 4), (2, 2, -5)),
    ((2, 1, 1), (1, 2, 1), (1, 1, 2)), ((0, 7, 1), (6, 0, -2), (1, 1, 9)),
]


def some_fours():
    """Steps and fours of them, of several ways."""
    for steps in FEW:
        for way in WAYS:
            yield steps, four_of(changed(steps, way))
    for steps in small_threes(997):
        yield steps, four_of(steps)


class FourTest(Case):

    def test_61_fours(self):
        for steps, four in [
                (UNIT, ((1, 0, 0), (0, 1, 0), (0, 0, 1), (-1, -1, -1))),
                (UNIT, ((-1, -1, -1), (0, 0, 1), (1, 0, 0), (0, 1, 0))),
                (UNIT, ((1, 0, 0), (1, 1, 0), (1, 1, 1), (-3, -2, -1))),
                (UNIT, ((1, 0, 0), (BIG, 1, 0), (-BIG, BIG, 1), (-1, -1 - BIG, -1))),
                (((0, 0, -1), (1, 0, 0), (5, 1, 7)), ((1, 0, 0), (0, 1, 0), (0, 0, 1), (-1, -1, -1))),
                (((2, 0, 0), (0, 3, 0), (0, 0, 5)), ((2, 3, 5), (0, 3, 5), (0, 0, 5), (-2, -6, -15))),
                (((BIG, 1, 0), (0, BIG, 1), (1, 0, BIG)),
                 ((BIG, 1, 0), (0, BIG, 1), (1, 0, BIG), (-BIG - 1, -BIG - 1, -BIG - 1)))]:
            self.assertIs(is_four(four, steps), True, (steps, four))

    def test_61_no_fours(self):
        for steps, thing in [
                (UNIT, UNIT), (UNIT, ((1, 0, 0), (0, 1, 0), (0, 0, 1), (1, 1, 1))),
                (UNIT, ((1, 0, 0), (0, 1, 0), (0, 0, 1), (0, 0, 0))),
                (UNIT, ((1, 0, 0), (0, 1, 0), (0, 0, 1), (-1, -1, 0))),
                (UNIT, ((1, 0, 0), (0, 1, 0), (0, 0, 1), (-1, 0, -1))),
                (UNIT, ((1, 0, 0), (0, 1, 0), (0, 0, 1), (0, -1, -1))),
                (UNIT, ((1, 0, 0), (0, 1, 0), (0, 0, 1), (-1, -1, -1), (0, 0, 0))),
                (UNIT, ((2, 0, 0), (0, 1, 0), (0, 0, 1), (-2, -1, -1))),
                (UNIT, ((1, 1, 0), (1, 0, 1), (0, 1, 1), (-2, -2, -2))),
                (UNIT, ((0, 0, 0), (0, 0, 0), (0, 0, 0), (0, 0, 0))),
                (UNIT, ((1, 0, 0), (-1, 0, 0), (0, 1, 0), (0, -1, 0))),
                (UNIT, ((1, 0, 0), (0, 1, 0), (1, 1, 0), (-2, -2, 0))),
                (UNIT, [(1, 0, 0), (0, 1, 0), (0, 0, 1), (-1, -1, -1)]),
                (UNIT, ([1, 0, 0], (0, 1, 0), (0, 0, 1), (-1, -1, -1))),
                (UNIT, ((1, 0, 0), (0, 1, 0), (0, 0, 1), [-1, -1, -1])),
                (UNIT, ((1, 0, 0), (0, 1, 0), (0, 0, 1), (-1, -1))),
                (UNIT, ((1, 0, 0), (0, 1, 0), (0, 0, 1), (-1, -1, -1, 0))),
                (UNIT, ((1, 0, 0), (0, 1, 0), (0, 0, 1), None)),
                (UNIT, ((1, 0, 0), (0, 1, 0), (0, 0, 1), -1)),
                (UNIT, ((1, 0, 0), (0, 1, 0), (0, 0, 1), ())),
                (UNIT, ((1, 0, 0), (0, 1, 0), (0, 0, 1), "abc")),
                (UNIT, ((1, 0, 0), (0, 1, 0), (0, 0, True), (-1, -1, -1))),
                (UNIT, ((1, 0, False), (0, 1, 0), (0, 0, 1), (-1, -1, -1))),
                (UNIT, ((-1, 0, 0), (0, 1, 0), (0, 0, 1), (True, -1, -1))),
                (UNIT, ((1, 0, 0), (-1, 1, 0), (0, 0, 1), (False, -1, -1))),
                (UNIT, ((1, 0), (0, 1), (-1, -1), (0, 0))), (UNIT, ((1, 0), (0, 1))),
                (UNIT, (1, 2, 3, -6)), (UNIT, ((1,), (2,), (3,), (-6,))), (UNIT, "abcd"),
                (((2, 0, 0), (0, 1, 0), (0, 0, 1)), ((1, 0, 0), (0, 1, 0), (0, 0, 1), (-1, -1, -1))),
                (((2, 0, 0), (0, 1, 0), (0, 0, 1)), ((1, 0, 0), (0, 2, 0), (0, 0, 1), (-1, -2, -1))),
                (((1, 0, 0), (0, 2, 0), (0, 0, 3)), ((2, 0, 0), (0, 1, 0), (0, 0, 3), (-2, -1, -3))),
                (((BIG, 0, 0), (0, 1, 0), (0, 0, 1)), ((1, 0, 0), (0, BIG, 0), (0, 0, 1), (-1, -BIG, -1)))]:
            self.assertIs(is_four(thing, steps), False, (steps, thing))

    def test_61_just_the_fours(self):
        points = list(itertools.product(range(-1, 2), repeat=3))
        threes = list(itertools.islice(itertools.product(points, repeat=3), 0, None, 11))
        seen = {}
        for steps in [UNIT, ((1, 1, 0), (1, 0, 1), (0, 1, 1)), ((1, 0, 0), (0, 1, 0), (1, 1, 2))]:
            for three in threes:
                told = is_four_by_words(four_of(three), steps)
                self.assertIs(is_four(four_of(three), steps), told, (three, steps))
                seen[told] = seen.get(told, 0) + 1
        self.assertGreater(seen[True], 100)
        self.assertGreater(seen[False], 100)

    def test_61_fours_of_each_way(self):
        for steps, four in some_fours():
            self.assertIs(is_four(four, steps), True, (steps, four))
            for order in itertools.islice(itertools.permutations(four), 0, None, 5):
                self.assertIs(is_four(order, steps), True, (steps, order))
            wrong = four[:3] + (tuple(number + 1 for number in four[3]),)
            self.assertIs(is_four(wrong, steps), False, (steps, wrong))
            self.assertIs(is_four(list(four), steps), False)
            self.assertIs(is_four(four[:3], steps), False)
            self.assertIs(is_four(four[1:] + four, steps), False)

    def test_61_no_four_of_whatever_kind(self):
        for thing in STRANGE + POINTS + PAIRS + THREES:
            self.assertIs(is_four(thing, UNIT), False, thing)
            self.assertIs(is_four(UNIT + (thing,), UNIT), False, thing)
            self.assertIs(is_four((thing,) + UNIT, UNIT), False, thing)
            self.assertIs(is_four((thing,) * 4, UNIT), False, thing)
            self.assertIs(is_four(UNIT + ((-1, thing, -1),), UNIT), is_int(thing, -1), thing)

    def test_61_blunt(self):
        for steps, four, told in [
                (UNIT, four_of(UNIT), True), (UNIT, ((1, 0, 0), (0, -1, 0), (0, 0, 1), (-1, 1, -1)), True),
                (UNIT, ((1, 0, 0), (1, 1, 0), (0, 0, 1), (-2, -1, -1)), False),
                (((1, 1, 0), (1, 0, 1), (0, 1, 1)), ((1, 1, 0), (1, 0, 1), (0, 1, 1), (-2, -2, -2)), False),
                (((-1, 1, 1), (1, -1, 1), (1, 1, -1)), four_of(((-1, 1, 1), (1, -1, 1), (1, 1, -1))), True),
                (((2, -1, 0), (0, 2, -1), (-1, 0, 2)), four_of(((2, -1, 0), (0, 2, -1), (-1, 0, 2))), True),
                (((BIG, 0, 0), (0, BIG, 0), (0, 0, BIG)),
                 four_of(((BIG, 0, 0), (0, BIG, 0), (0, 0, BIG))), True),
                (((BIG, 0, 0), (0, BIG, 0), (0, 0, BIG)),
                 four_of(((BIG, 0, 0), (0, BIG, 0), (BIG, 0, -BIG))), False)]:
            self.assertIs(is_blunt(steps, four), told, (steps, four))

    def test_61_just_the_blunt_ones(self):
        alone = {}
        for steps in small_threes(61):
            four = four_of(steps)
            above = [places for places in PLACES if dot(four[places[0]], four[places[1]]) > 0]
            self.assertIs(is_blunt(steps, four), above == [], four)
            if len(above) == 1:
                for order in itertools.permutations(range(4)):
                    turned = tuple(four[at] for at in order)
                    self.assertIs(is_blunt(steps, turned), False, turned)
                    alone[tuple(sorted(order.index(at) for at in above[0]))] = True
        # At each two places there was a product that alone was above nought.
        self.assertEqual(sorted(alone), PLACES)

    def test_5_no_three_ahead_of_all_else(self):
        for thing in STRANGE + POINTS + PAIRS:
            self.refused(NoThree, folds_for, thing)
            self.refused(NoThree, blunt_four, thing)
            self.refused(NoThree, least_of_three, thing)
            for four in [four_of(UNIT), UNIT, None, [], ((1, 0), (0, 1)), thing]:
                self.refused(NoThree, is_four, four, thing)
                self.refused(NoThree, is_blunt, thing, four)
                for folds in [[], [(0, 1)], None, [(0, 0)], thing]:
                    self.refused(NoThree, folded, thing, four, folds)

    def test_61_no_four(self):
        others = [
            list(four_of(UNIT)), UNIT, ((1, 0, 0), (0, 1, 0), (0, 0, 1), (1, 1, 1)),
            ((2, 0, 0), (0, 1, 0), (0, 0, 1), (-2, -1, -1)),
            ((1, 0, 0), (-1, 0, 0), (0, 1, 0), (0, -1, 0)),
            ((1, 0, 0), (0, 1, 0), (0, 0, True), (-1, -1, -1)),
            ((-1, 0, 0), (0, 1, 0), (0, 0, 1), (True, -1, -1)),
            ((1, 0, 0), (0, 1, 0), (0, 0, 1), [-1, -1, -1])]
        for thing in STRANGE + POINTS + PAIRS + THREES + others:
            self.refused(NoFour, is_blunt, UNIT, thing)
            for folds in [[], [(0, 1)], None, [(0, 0)], [(0, True)], thing]:
                self.refused(NoFour, folded, UNIT, thing, folds)

    def test_61_a_four_of_other_steps(self):
        double = ((2, 0, 0), (0, 1, 0), (0, 0, 1))
        for steps, four in [(UNIT, four_of(double)), (double, four_of(UNIT)),
                            (double, four_of(((1, 0, 0), (0, 2, 0), (0, 0, 1))))]:
            self.refused(NoFour, is_blunt, steps, four)
            self.refused(NoFour, folded, steps, four, [])
            self.refused(NoFour, folded, steps, four, [(4, 5)])


class FoldsTest(Case):

    def test_62_each_fold(self):
        steps = ((3, 1, 0), (-2, 4, 1), (0, 5, -6))
        four = ((3, 1, 0), (-2, 4, 1), (0, 5, -6), (-1, -10, 5))
        for fold, told in [
                ((0, 1), ((-3, -1, 0), (-2, 4, 1), (3, 6, -6), (2, -9, 5))),
                ((0, 2), ((-3, -1, 0), (1, 5, 1), (0, 5, -6), (2, -9, 5))),
                ((0, 3), ((-3, -1, 0), (1, 5, 1), (3, 6, -6), (-1, -10, 5))),
                ((1, 0), ((3, 1, 0), (2, -4, -1), (-2, 9, -5), (-3, -6, 6))),
                ((1, 2), ((1, 5, 1), (2, -4, -1), (0, 5, -6), (-3, -6, 6))),
                ((1, 3), ((1, 5, 1), (2, -4, -1), (-2, 9, -5), (-1, -10, 5))),
                ((2, 0), ((3, 1, 0), (-2, 9, -5), (0, -5, 6), (-1, -5, -1))),
                ((2, 1), ((3, 6, -6), (-2, 4, 1), (0, -5, 6), (-1, -5, -1))),
                ((2, 3), ((3, 6, -6), (-2, 9, -5), (0, -5, 6), (-1, -10, 5))),
                ((3, 0), ((3, 1, 0), (-3, -6, 6), (-1, -5, -1), (1, 10, -5))),
                ((3, 1), ((2, -9, 5), (-2, 4, 1), (-1, -5, -1), (1, 10, -5))),
                ((3, 2), ((2, -9, 5), (-3, -6, 6), (0, 5, -6), (1, 10, -5)))]:
            with self.subTest(fold=fold):
                now = folded(steps, four, [fold])
                self.assertEqual(now, told)
                self.is_plain(now, tuple)
                for point in now:
                    self.is_plain(point, tuple)
                    self.assertEqual([type(number) for number in point], [int] * 3)

    def test_62_none_and_several(self):
        for steps, four in itertools.islice(some_fours(), 0, None, 3):
            self.assertEqual(folded(steps, four, []), four)
            here, folds = four, []
            for at in range(30):
                folds.append(FOLDS[(7 * at + at // 5) % 12])
                here = fold_by_words(here, folds[-1])
                self.assertEqual(folded(steps, four, folds), here, (four, folds))

    def test_62_the_first_one_first(self):
        four = four_of(UNIT)
        one = folded(UNIT, four, [(0, 1), (1, 2)])
        self.assertEqual(one, ((-1, 1, 0), (0, -1, 0), (1, 0, 1), (0, 0, -1)))
        other = folded(UNIT, four, [(1, 2), (0, 1)])
        self.assertEqual(other, ((-1, -1, 0), (0, -1, 0), (1, 1, 1), (0, 1, -1)))

    def test_62_folds_keep_the_grid(self):
        for steps, four in some_fours():
            for fold in FOLDS:
                now = folded(steps, four, [fold])
                self.assertEqual(now, fold_by_words(four, fold), (four, fold))
                self.assertIs(is_four(now, steps), True, (four, fold))
                self.assertTrue(is_four_by_words(now, steps), (four, fold))

    def test_62_what_the_lengths_come_to(self):
        for steps, four in some_fours():
            for i, j in FOLDS:
                now = folded(steps, four, [(i, j)])
                self.assertEqual(lengths(now), lengths(four) - 2 * dot(four[i], four[j]), (four, i, j))

    def test_62_numbers_of_thirty_figures(self):
        for steps in THREES:
            four = four_of(steps)
            for one, other in itertools.product(FOLDS, repeat=2):
                self.assertEqual(
                    folded(steps, four, [one, other]), fold_by_words(fold_by_words(four, one), other))
            great = folded(steps, four, FOLDS * 4)
            self.assertIs(is_four(great, steps), True)
            self.assertEqual(folded(steps, great, [(2, 1)]), fold_by_words(great, (2, 1)))
            self.assertIs(is_blunt(steps, great), blunt_by_words(great))

    def test_62_no_folds(self):
        four = four_of(UNIT)
        for folds in [
                None, (), ((0, 1),), (0, 1), [[0, 1]], [(0,)], [(0, 1, 2)], [()], [0, 1], [(0, 0)],
                [(1, 1)], [(2, 2)], [(3, 3)], [(0, 4)], [(4, 0)], [(-1, 0)], [(0, -1)], [(3, -1)],
                [(-1, -2)], [(0, True)], [(True, 0)], [(False, 1)], [(1, False)], [(True, False)],
                [(2, True)], [(0, None)], [(None, 0)], [(0, "1")], ["01"], [("0", "1")], [{0: 1}],
                {(0, 1): True}, {}, "", "01", [None], [(0, 1), (1, 1)], [(0, 1), None],
                [(0, 1), [1, 2]], [(0, BIG)], [(-BIG, 1)], [((0,), 1)], [(0, (1,))], [(0, [])],
                [({}, 1)], [(0, 1), ((2, 3),)], [[(0, 1)]], [(4, 5)], [(0, 1), (3, 4)], 0, True]:
            self.refused(NoMoves, folded, UNIT, four, folds)

    def test_62_no_folds_of_whatever_kind(self):
        four = four_of(UNIT)
        for thing in STRANGE + POINTS + PAIRS + THREES:
            if thing not in ([], [(1, 0), (0, 1)]):
                self.refused(NoMoves, folded, UNIT, four, thing)
            if thing != (1, 2):
                self.refused(NoMoves, folded, UNIT, four, [thing])
                self.refused(NoMoves, folded, UNIT, four, [(0, 1), thing])


class BluntTest(Case):

    def folds_lead(self, steps):
        folds = folds_for(steps)
        self.is_plain(folds, list)
        for fold in folds:
            self.is_plain(fold, tuple)
            self.assertIn(fold, FOLDS)
            self.assertEqual([type(place) for place in fold], [int, int])
        here = four_of(steps)
        for fold in folds:
            here = fold_by_words(here, fold)
        self.assertTrue(blunt_by_words(here), steps)
        self.assertEqual(folded(steps, four_of(steps), folds), here, steps)
        self.assertIs(is_blunt(steps, here), True, steps)

    def tells_blunt(self, steps):
        four = blunt_four(steps)
        self.is_plain(four, tuple)
        self.assertEqual([len(point) for point in four], [3] * 4)
        for point in four:
            self.is_plain(point, tuple)
            self.assertEqual([type(number) for number in point], [int] * 3)
        self.assertTrue(is_four_by_words(four, steps), steps)
        self.assertTrue(blunt_by_words(four), steps)
        self.assertIs(is_four(four, steps), True, steps)
        self.assertIs(is_blunt(steps, four), True, steps)

    def test_63_small_steps(self):
        for steps in small_threes(97):
            self.folds_lead(steps)
            self.tells_blunt(steps)

    def test_63_steps_led_astray(self):
        for steps in FEW:
            for way in WAYS:
                there = changed(steps, way)
                if max(abs(number) for step in there for number in step) <= 999:
                    self.folds_lead(there)
                    self.tells_blunt(there)

    def test_63_numbers_to_999(self):
        for steps in strewn(60, 999) + strewn(20, 60) + WIDE:
            with self.subTest(steps=steps):
                self.folds_lead(steps)
                self.tells_blunt(steps)

    def test_63_a_four_that_is_blunt_at_first(self):
        for steps in [UNIT, ((-1, 1, 1), (1, -1, 1), (1, 1, -1)), ((2, -1, 0), (0, 2, -1), (-1, 0, 2)),
                      ((999, 0, 0), (0, -999, 0), (0, 0, 999)), ((5, -1, -1), (-1, 5, -1), (-1, -1, 5))]:
            self.assertIs(is_blunt(steps, four_of(steps)), True)
            self.folds_lead(steps)
            self.tells_blunt(steps)


class LeastTest(Case):

    def test_64_least_points(self):
        for steps, told in [
                (UNIT, [(-1, 0, 0), (0, -1, 0), (0, 0, -1), (0, 0, 1), (0, 1, 0), (1, 0, 0)]),
                (((1, 1, 0), (1, 0, 1), (0, 1, 1)), [
                    (-1, -1, 0), (-1, 0, -1), (-1, 0, 1), (-1, 1, 0), (0, -1, -1), (0, -1, 1),
                    (0, 1, -1), (0, 1, 1), (1, -1, 0), (1, 0, -1), (1, 0, 1), (1, 1, 0)]),
                (((-1, 1, 1), (1, -1, 1), (1, 1, -1)), sorted(itertools.product((-1, 1), repeat=3))),
                (((1, 0, 0), (0, 1, 0), (0, 0, 5)), [(-1, 0, 0), (0, -1, 0), (0, 1, 0), (1, 0, 0)]),
                (((1, 0, 0), (0, 5, 0), (0, 0, 5)), [(-1, 0, 0), (1, 0, 0)]),
                (((1, -1, 0), (0, 1, -1), (5, 5, 5)), [
                    (-1, 0, 1), (-1, 1, 0), (0, -1, 1), (0, 1, -1), (1, -1, 0), (1, 0, -1)]),
                (((2, 0, 0), (0, 2, 0), (1, 1, 1)), sorted(itertools.product((-1, 1), repeat=3))),
                (((999, 0, 0), (0, 999, 0), (0, 0, 999)), [
                    (-999, 0, 0), (0, -999, 0), (0, 0, -999), (0, 0, 999), (0, 999, 0), (999, 0, 0)]),
                (((2, 0, 0), (0, 2, 0), (999, 999, 1)), sorted(itertools.product((-1, 1), repeat=3)))]:
            with self.subTest(steps=steps):
                now = least_of_three(steps)
                self.assertEqual(now, told)
                self.is_plain(now, list)
                for point in now:
                    self.is_plain(point, tuple)
                    self.assertEqual([type(number) for number in point], [int] * 3)

    def test_64_by_looking_at_all_points_about_nought(self):
        around = [point for point in itertools.product(range(-3, 4), repeat=3) if any(point)]
        for steps in small_threes(1511):
            inside = [point for point in around if lies_in_three(point, steps)]
            least = min(dot(point, point) for point in inside)
            self.assertEqual(
                least_of_three(steps), [point for point in inside if dot(point, point) == least], steps)
            self.assertEqual(least_by_looking(steps), least_of_three(steps), steps)

    def test_64_the_same_for_all_steps_of_a_grid(self):
        for steps in FEW:
            told = least_by_looking(steps)
            for way in WAYS:
                there = changed(steps, way)
                if max(abs(number) for step in there for number in step) <= 999:
                    self.assertEqual(least_of_three(there), told, there)

    def test_64_numbers_to_999(self):
        for steps in strewn(60, 999) + strewn(20, 60) + WIDE:
            self.assertEqual(least_of_three(steps), least_by_looking(steps), steps)

    def test_64_rising_and_made_of_a_blunt_four(self):
        for steps in strewn(30, 999) + WIDE + FEW:
            told = least_of_three(steps)
            self.assertEqual(told, sorted(set(told)), steps)
            four = blunt_four(steps)
            made = changed(four[:3], [
                row for row in itertools.product(range(2), repeat=3) if any(row)])
            both = list(made) + [tuple(-number for number in point) for point in made]
            least = min(dot(point, point) for point in both)
            self.assertEqual(told, sorted(point for point in both if dot(point, point) == least))
            for point in told:
                self.assertTrue(lies_in_three(point, steps), steps)
                self.assertIn(tuple(-number for number in point), told)

    def test_6_a_blunt_four_has_the_same_grid(self):
        for steps in strewn(20, 999) + WIDE + FEW:
            three = blunt_four(steps)[:3]
            self.assertIs(is_steps(three), True)
            self.assertIs(is_same(three, steps), True)


if __name__ == "__main__":
    unittest.main()
