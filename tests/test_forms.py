"""Points 81 to 84: what shapes take, as forms, and all shapes of a room."""

import itertools
import unittest

from shortsteps.errors import NoNumber, NoShape
from shortsteps.forms import is_fine, shapes_of, taken_at, takers
from shortsteps.shapes import is_ahead, room_squared, shape
from shortsteps.short import moved
from tests.things import (
    BIG, GREAT_WAYS, PAIRS, POINTS, STRANGE, THREES, WAYS, Case, changed, det, dot,
    grid_points, is_int, plane, shape_by_words, small_pairs)

SHAPES = [
    (1, 0, 1), (1, 0, 2), (2, 0, 2), (2, 1, 2), (2, 1, 3), (3, 1, 3), (4, 2, 4), (4, 2, 5),
    (5, 2, 5), (1, 0, 7), (5, 0, 9), (5, 1, 9), (5, 2, 9), (10, 2, 20), (14, 7, 14), (16, 8, 16),
    (15, 5, 20), (60, 30, 60), (61, 30, 61), (1, 0, 200), (1, 0, 201), (2, 1, 100), (199, 0, 200),
    (200, 100, 200), (201, 0, 201), (200, 100, 201), (199, 99, 199), (1, 0, BIG), (7, 3, BIG),
    (BIG, 0, BIG), (BIG - 1, BIG // 2, BIG), (BIG, BIG // 2, BIG)]

NO_SHAPES = [
    (0, 0, 0), (0, 0, 1), (-1, 0, 1), (2, -1, 2), (1, 1, 1), (3, 2, 3), (5, 3, 9), (2, 0, 1),
    (9, 1, 5), (1, 0, 0), (1, 0, -1), (BIG, 0, BIG - 1), (BIG, BIG // 2 + 1, BIG),
    (True, 0, 1), (1, False, 1), (1, 0, True), [1, 0, 1], [2, 1, 3], {1: 0, 2: 1}, "101",
    (1, 0), (1, 0, 1, 1), ((1, 0, 1),), ("1", 0, 1), (1, None, 1), (1, 0, (1,))]

# The numbers that are above or below each one that may be handed in.
NO_NUMBERS = [201, 202, -1, -200, 10 ** 6, -10 ** 6, True, False, "1", [1], (1,), None, {}]


def value(form, place):
    """What a shape takes at (x, y), by the words of point 81."""
    (a, b, c), (x, y) = form, place
    return a * x * x + 2 * b * x * y + c * y * y


def places_by_number(form):
    """The (x, y) about nought at which a shape takes each number to 200, rising.

    No shape takes a number to 200 farther from nought than in some 16 steps.
    """
    found = {number: [] for number in range(201)}
    for place in plane(20):
        if value(form, place) <= 200:
            found[value(form, place)].append(place)
    return found


def shapes_by_room():
    """The shapes whose room times itself is from 1 to 200, by going through all numbers.

    As twice B is no greater than A, and A no greater than C, A C is at most
    four thirds of it.
    """
    found = {number: [] for number in range(1, 201)}
    for a, c, b in itertools.product(range(1, 20), range(1, 280), range(0, 12)):
        if 2 * b <= a <= c and 1 <= a * c - b * b <= 200:
            found[a * c - b * b].append((a, b, c))
    return found


BY_ROOM = shapes_by_room()


class FormsCase(Case):

    def are_shapes(self, told):
        self.is_plain(told, list)
        for form in told:
            self.is_plain(form, tuple)
            self.assertEqual([type(number) for number in form], [int, int, int])


class TakenTest(FormsCase):

    def test_81_taken_at(self):
        for form, number, told in [
                ((1, 0, 1), 0, [(0, 0)]), ((1, 0, 1), 1, [(-1, 0), (0, -1), (0, 1), (1, 0)]),
                ((1, 0, 1), 3, []), ((2, 1, 2), 1, []),
                ((2, 1, 2), 2, [(-1, 0), (-1, 1), (0, -1), (0, 1), (1, -1), (1, 0)]),
                ((1, 0, 200), 200, [(0, -1), (0, 1)]), ((1, 0, 196), 196, [
                    (-14, 0), (0, -1), (0, 1), (14, 0)]),
                ((200, 100, 200), 200, [
                    (-1, 0), (-1, 1), (0, -1), (0, 1), (1, -1), (1, 0)]),
                ((200, 100, 201), 200, [(-1, 0), (1, 0)]), ((201, 0, 201), 200, []),
                ((4, 2, 5), 5, [(-1, 1), (0, -1), (0, 1), (1, -1)]),
                ((10, 2, 20), 26, [(-1, 1), (1, -1)]), ((10, 2, 20), 34, [(-1, -1), (1, 1)]),
                ((BIG, 0, BIG), 0, [(0, 0)]), ((BIG, 0, BIG), 200, []),
                ((1, 0, BIG), 196, [(-14, 0), (14, 0)]), ((7, 3, BIG), 175, [(-5, 0), (5, 0)])]:
            with self.subTest(form=form, number=number):
                now = taken_at(form, number)
                self.assertEqual(now, told)
                self.is_plain(now, list)
                for place in now:
                    self.is_plain(place, tuple)
                    self.assertEqual([type(part) for part in place], [int, int])

    def test_81_by_looking_at_all_about_nought(self):
        for form in SHAPES:
            found = places_by_number(form)
            for number in range(201):
                self.assertEqual(taken_at(form, number), found[number], (form, number))

    def test_81_small_shapes_by_looking_at_all_about_nought(self):
        for a, b, c in itertools.product(range(1, 7), range(0, 4), range(1, 9)):
            if 2 * b <= a <= c:
                found = places_by_number((a, b, c))
                for number in (0, 1, 2, a, c, a + c + 2 * b, 50, 147, 192, 196, 199, 200):
                    self.assertEqual(taken_at((a, b, c), number), found[number], (a, b, c))

    def test_3_shapes_that_were_told_handed_in_again(self):
        for start in [((1, 0), (0, 1)), ((4, 0), (2, 5)), ((3, 1), (-2, 4))]:
            great = moved(start, [("less", -BIG), ("turn",)] * 20)
            found = places_by_number(shape_by_words(start))
            for number in (0, 1, 4, 10, 20, 196, 200):
                self.assertEqual(taken_at(shape(great), number), found[number])
        for pair in [((BIG, 0), (1, BIG)), ((BIG, 3), (-3, BIG - 1)), ((0, BIG), (1, 7))]:
            found = places_by_number(shape_by_words(pair))
            for number in (0, 1, 100, 200):
                self.assertEqual(taken_at(shape(pair), number), found[number])
        for form in shapes_of(195) + shapes_of(200):
            found = places_by_number(form)
            for number in (form[0], form[2], 200):
                self.assertEqual(taken_at(form, number), found[number])

    def test_81_no_shape(self):
        for thing in STRANGE + POINTS + PAIRS + THREES + NO_SHAPES:
            for number in (0, 1, 200):
                self.refused(NoShape, taken_at, thing, number)

    def test_81_no_number(self):
        for form in [(1, 0, 1), (10, 2, 20), (BIG, 0, BIG)]:
            for thing in STRANGE + POINTS + PAIRS + THREES + NO_NUMBERS + SHAPES:
                if not is_int(thing, 0, 1, 7):
                    self.refused(NoNumber, taken_at, form, thing)

    def test_5_no_shape_ahead_of_no_number(self):
        for thing in STRANGE + NO_SHAPES:
            for number in NO_NUMBERS + [thing]:
                self.refused(NoShape, taken_at, thing, number)


class ShapesTest(FormsCase):

    def test_82_shapes_of(self):
        for number, told in [
                (1, [(1, 0, 1)]), (2, [(1, 0, 2)]), (3, [(1, 0, 3), (2, 1, 2)]),
                (4, [(1, 0, 4), (2, 0, 2)]), (5, [(1, 0, 5), (2, 1, 3)]),
                (12, [(1, 0, 12), (2, 0, 6), (3, 0, 4), (4, 2, 4)]),
                (14, [(1, 0, 14), (2, 0, 7), (3, 1, 5)]),
                (15, [(1, 0, 15), (2, 1, 8), (3, 0, 5), (4, 1, 4)])]:
            with self.subTest(number=number):
                self.assertEqual(shapes_of(number), told)
                self.are_shapes(shapes_of(number))

    def test_82_all_numbers_by_going_through_all_shapes(self):
        for number in range(1, 201):
            told = sorted(BY_ROOM[number], key=lambda form: (form[0], form[2], form[1]))
            self.assertEqual(shapes_of(number), told, number)
            self.are_shapes(shapes_of(number))

    def test_82_in_order(self):
        for number in range(1, 201):
            told = shapes_of(number)
            for one, other in zip(told, told[1:]):
                self.assertIs(is_ahead(one, other), True, (one, other))
            for form in told:
                self.assertEqual(room_squared(form), number)

    def test_82_no_number(self):
        for thing in STRANGE + POINTS + PAIRS + THREES + SHAPES + NO_NUMBERS + [0]:
            if not is_int(thing, 1, 7):
                self.refused(NoNumber, shapes_of, thing)


class FineTest(FormsCase):

    def test_83_fine(self):
        for form in [
                (1, 0, 1), (1, 0, 2), (2, 1, 2), (2, 1, 3), (3, 0, 4), (4, 2, 5), (6, 3, 10),
                (6, 2, 9), (6, 0, 35), (10, 5, 12), (15, 6, 20), (6, 1, 6), (30, 12, 35),
                (1, 0, BIG), (BIG - 1, 0, BIG), (BIG - 1, 1, BIG - 1), (BIG, BIG // 2, BIG + 1)]:
            self.assertIs(is_fine(form), True, form)

    def test_83_not_fine(self):
        for form in [
                (2, 0, 2), (4, 2, 4), (3, 0, 3), (6, 3, 9), (6, 2, 8), (5, 0, 5), (10, 2, 20),
                (15, 5, 20), (49, 7, 49), (22, 11, 33), (4, 0, 6), (9, 3, 12), (BIG, 0, BIG),
                (BIG, BIG // 3, BIG), (10 ** 29, 10 ** 28, 3 * 10 ** 29), (14 * 10 ** 20, 7, 7 * BIG)]:
            self.assertIs(is_fine(form), False, form)

    def test_83_by_going_through_what_may_divide(self):
        seen = {}
        for forms in BY_ROOM.values():
            for form in forms:
                dividing = [
                    k for k in range(2, max(form) + 1) if all(number % k == 0 for number in form)]
                seen[len(dividing)] = True
                self.assertIs(is_fine(form), dividing == [], form)
        self.assertGreater(len(seen), 3)

    def test_3_shapes_of_whatever_size(self):
        for factor in (2, 3, BIG):
            form = shape(((factor * BIG, 0), (factor, factor * BIG)))
            self.assertIs(is_fine(form), False)
        self.assertIs(is_fine(shape(((BIG, 0), (1, BIG)))), shape_is_fine(((BIG, 0), (1, BIG))))
        self.assertIs(is_fine(shape(((BIG, 1), (0, 1)))), True)

    def test_83_no_shape(self):
        for thing in STRANGE + POINTS + PAIRS + THREES + NO_SHAPES:
            self.refused(NoShape, is_fine, thing)


def shape_is_fine(pair):
    """Whether the shape of a pair whose numbers are great is fine, by Euclid's way."""
    rest = 0
    for number in shape_by_words(pair):
        while number:
            rest, number = number, rest % number
    return rest == 1


class TakersTest(FormsCase):

    def test_83_takers(self):
        for number, taken, told in [
                (1, 1, [(1, 0, 1)]), (1, 3, []), (1, 200, [(1, 0, 1)]), (3, 2, [(2, 1, 2)]),
                (3, 1, [(1, 0, 3)]), (4, 4, [(1, 0, 4), (2, 0, 2)]), (5, 3, [(2, 1, 3)]),
                (5, 6, [(1, 0, 5)]), (5, 7, [(2, 1, 3)]), (12, 4, [
                    (1, 0, 12), (3, 0, 4), (4, 2, 4)]),
                (14, 15, [(1, 0, 14), (2, 0, 7)]), (200, 1, [(1, 0, 200)])]:
            with self.subTest(number=number, taken=taken):
                self.assertEqual(takers(number, taken), told)
                self.are_shapes(takers(number, taken))

    def test_83_by_looking_at_all_about_nought(self):
        for number in (1, 2, 3, 4, 12, 23, 39, 47, 84, 100, 144, 195, 199, 200):
            forms = sorted(BY_ROOM[number], key=lambda form: (form[0], form[2], form[1]))
            found = [(form, places_by_number(form)) for form in forms]
            for taken in range(1, 201):
                told = [form for form, places in found if places[taken] != []]
                self.assertEqual(takers(number, taken), told, (number, taken))

    def test_83_no_number_for_each(self):
        for thing in STRANGE + POINTS + PAIRS + THREES + NO_NUMBERS + [0]:
            if not is_int(thing, 1, 7):
                self.refused(NoNumber, takers, thing, 1)
                self.refused(NoNumber, takers, thing, 200)
                self.refused(NoNumber, takers, 1, thing)
                self.refused(NoNumber, takers, 200, thing)
                self.refused(NoNumber, takers, thing, thing)


class BehindTest(FormsCase):

    def test_84_the_least_number_is_a(self):
        for form in SHAPES:
            a, _, c = form
            for number in range(1, min(a, 201)):
                self.assertEqual(taken_at(form, number), [], form)
            if a <= 200:
                self.assertIn((1, 0), taken_at(form, a))
                self.assertIn((-1, 0), taken_at(form, a))
            for number in range(1, min(c, 201)):
                self.assertEqual([y for _, y in taken_at(form, number) if y != 0], [], form)
            if c <= 200:
                self.assertIn((0, 1), taken_at(form, c))

    def test_84_a_pairs_shape_is_one_of_those_for_its_room_times_itself(self):
        great = [changed(((3, 1), (-2, 4)), way) for way in WAYS + GREAT_WAYS]
        seen = {}
        for pair in itertools.chain(itertools.islice(small_pairs(-3, 3), 0, None, 7), great):
            if abs(det(pair)) <= 14:
                self.assertIn(shape(pair), shapes_of(det(pair) ** 2), pair)
                seen[shape(pair)] = True
        self.assertGreater(len(seen), 20)

    def test_84_a_pairs_shape_takes_each_length_of_its_points(self):
        for pair in itertools.islice(small_pairs(-3, 3), 0, None, 59):
            lengths = [dot(point, point) for point in grid_points(pair, 14)]
            for number in range(201):
                told = lengths.count(number)
                self.assertEqual(len(taken_at(shape(pair), number)), told, (pair, number))


if __name__ == "__main__":
    unittest.main()
