"""Points 21 to 24: short pairs, moves, what leads to a short pair, least points."""

import itertools
import unittest

from shortsteps.grids import is_same, is_steps
from shortsteps.short import is_moves, is_short, least_points, moved, moves_for, short_pair
from tests.things import BIG, PAIRS, STRANGE, THREES, Case, dot, lies_in, remainders, small_pairs


def short_by_words(pair):
    """Whether a pair is short, by the words of point 21."""
    first, second = pair
    across = dot(first, second)
    return not (across < 0 or 2 * across > dot(first, first)
                or dot(first, first) > dot(second, second))


class ShortTest(Case):

    def test_21_short_pairs(self):
        for pair in [
                ((1, 0), (0, 1)), ((0, 1), (1, 0)), ((-1, 0), (0, -1)),
                ((2, 0), (1, 2)), ((2, 0), (0, 3)), ((2, 0), (1, 5)), ((3, 1), (-1, 3)),
                ((4, 0), (2, 4)), ((BIG, 0), (0, BIG)), ((BIG - 1, 0), (BIG // 2, BIG))]:
            with self.subTest(pair=pair):
                self.assertIs(is_short(pair), True)

    def test_21_pairs_that_are_not_short(self):
        for pair in [
                ((2, 0), (-1, 2)), ((1, 0), (-1, 5)), ((2, 0), (2, 3)), ((3, 0), (2, 9)),
                ((2, 0), (0, 1)), ((0, 3), (2, 0)), ((1, 0), (BIG, 1)), ((1, 0), (-BIG, 1)),
                ((BIG, 0), (0, BIG - 1)), ((5, 8), (3, 5)), ((BIG, 0), (BIG // 2 + 1, BIG))]:
            with self.subTest(pair=pair):
                self.assertIs(is_short(pair), False)

    def test_21_just_the_short_pairs(self):
        for pair in small_pairs(-3, 3):
            self.assertIs(is_short(pair), short_by_words(pair), pair)


class MovesTest(Case):

    def test_22_moves(self):
        for moves in [
                [], [("turn",)], [("about",)], [("less", 0)], [("less", 5)], [("less", -7)],
                [("less", BIG)], [("turn",), ("turn",), ("less", 1), ("about",)],
                [("less", -BIG)] * 50]:
            with self.subTest(moves=moves):
                self.assertIs(is_moves(moves), True)

    def test_22_no_moves(self):
        for thing in [
                None, True, 0, "", "turn", "less", (), {}, ("turn",), (("turn",),), {"turn": 1},
                {("turn",): 1}, ["turn"], ["about"], [["turn"]], [["less", 1]], [()], [None],
                [1], [{}], [[]], [("turn", 1)], [("turn", None)], [("about", 0)], [("less",)],
                [("less", True)], [("less", False)], [("less", None)], [("less", "1")],
                [("less", [1])], [("less", (1,))], [("less", {})], [("less", 1, 2)],
                [("turn", "about")], [("turn",), "about"], [("turn",), None],
                [("less", 1), ("about", 1)], [("more", 1)], [("Turn",)], [("ABOUT",)],
                [("turn ",)], [("",)], [(None,)], [(True,)], [(1,)], [([],)], [({},)],
                [("turn",), ["turn"]], [(("turn",),)], [[("turn",)]], [(1, "less")],
                [([], 1)], [({}, 1)], [(None, 1)], [("turn",), ("less", 1), ("less", True)],
                [("tur",)], [("l", 1)], [("less", 1), ()]]:
            with self.subTest(thing=thing):
                self.assertIs(is_moves(thing), False)

    def test_22_no_moves_of_whatever_kind(self):
        for thing in STRANGE + PAIRS + THREES:
            with self.subTest(thing=thing):
                self.assertIs(is_moves(thing), thing == [])
                self.assertIs(is_moves([thing]), thing in [("turn",), ("less", 1)])

    def test_22_what_moves_do(self):
        pair = ((3, 1), (-2, 4))
        for moves, told in [
                ([], ((3, 1), (-2, 4))), ([("turn",)], ((-2, 4), (3, 1))),
                ([("about",)], ((3, 1), (2, -4))), ([("less", 0)], ((3, 1), (-2, 4))),
                ([("less", 1)], ((3, 1), (-5, 3))), ([("less", -1)], ((3, 1), (1, 5))),
                ([("less", 2)], ((3, 1), (-8, 2))),
                ([("less", BIG)], ((3, 1), (-2 - 3 * BIG, 4 - BIG))),
                ([("turn",), ("turn",)], pair), ([("about",), ("about",)], pair),
                ([("less", 7), ("less", -7)], pair)]:
            with self.subTest(moves=moves):
                now = moved(pair, moves)
                self.assertEqual(now, told)
                self.is_plain(now, tuple)
                self.assertIs(is_steps(now), True)

    def test_22_the_first_one_first(self):
        pair = ((3, 1), (-2, 4))
        self.assertEqual(moved(pair, [("turn",), ("about",)]), ((-2, 4), (-3, -1)))
        self.assertEqual(moved(pair, [("about",), ("turn",)]), ((2, -4), (3, 1)))
        self.assertEqual(moved(pair, [("turn",), ("less", 2)]), ((-2, 4), (7, -7)))
        self.assertEqual(moved(pair, [("less", 2), ("turn",)]), ((-8, 2), (3, 1)))
        self.assertEqual(moved(pair, [("less", 1), ("about",)]), ((3, 1), (5, -3)))
        self.assertEqual(moved(pair, [("about",), ("less", 1)]), ((3, 1), (-1, -5)))
        self.assertEqual(
            moved(pair, [("less", 1), ("turn",), ("about",), ("less", -2)]),
            ((-5, 3), (-13, 5)))

    def test_22_moves_keep_the_grid(self):
        lists = [[("turn",)], [("about",)], [("less", 3)], [("less", -BIG), ("turn",), ("less", 2)],
                 [("turn",), ("less", BIG), ("about",), ("turn",), ("less", -5)]]
        for pair in PAIRS:
            for moves in lists:
                self.assertIs(is_same(pair, moved(pair, moves)), True)

    def test_22_nought_stays_nought(self):
        self.assertEqual(moved(((1, 0), (0, 1)), [("about",)]), ((1, 0), (0, -1)))


class LeadTest(Case):

    def leads(self, pair):
        moves = moves_for(pair)
        self.is_plain(moves, list)
        self.assertIs(is_moves(moves), True, pair)
        led = moved(pair, moves)
        self.assertTrue(short_by_words(led), pair)
        self.assertIs(is_short(led), True, pair)
        self.assertIs(is_same(pair, led), True, pair)

    def tells_short(self, pair):
        short = short_pair(pair)
        self.is_plain(short, tuple)
        self.assertIs(is_steps(short), True, pair)
        self.assertTrue(short_by_words(short), pair)
        self.assertIs(is_same(pair, short), True, pair)
        return short

    def test_23_small_pairs(self):
        for pair in small_pairs(-3, 3):
            self.leads(pair)
            self.tells_short(pair)

    def test_23_the_points_stay_just_the_same(self):
        for pair in itertools.islice(small_pairs(-2, 3), 0, None, 5):
            self.assertEqual(remainders(pair), remainders(short_pair(pair)), pair)
            self.assertEqual(remainders(pair), remainders(moved(pair, moves_for(pair))), pair)

    def test_23_numbers_of_thirty_figures(self):
        great = [
            ((1, 0), (BIG, 1)), ((1, 0), (-BIG, 1)), ((BIG, 1), (1, 0)), ((0, -1), (1, BIG)),
            ((BIG, BIG - 1), (BIG - 1, BIG - 2)), ((BIG, 3), (10 ** 29 + 7, -BIG)),
            ((2, 0), (BIG, 2)), ((-BIG, -BIG), (BIG, BIG - 1)), ((7 * 10 ** 28, 1), (-BIG, 5))]
        for pair in great + PAIRS:
            with self.subTest(pair=pair):
                self.leads(pair)
                self.tells_short(pair)

    def test_23_many_moves_and_great_ones(self):
        one, other = 1, 1
        while other < BIG // 3:
            one, other = other, one + other
        for pair in [((other, one), (one, other - one)), ((other, 0), (one, 1)),
                     ((one, other), (other, one))]:
            self.leads(pair)
            self.tells_short(pair)

    def test_23_a_product_of_nought_and_of_half_a_length(self):
        for pair in [
                ((1, 0), (0, 5)), ((5, 0), (0, 1)), ((2, 0), (1, 5)), ((2, 0), (-1, 5)),
                ((2, 0), (1, 1)), ((2, 0), (-1, 1)), ((2, 0), (3, 9)), ((2, 0), (-3, 9)),
                ((4, 2), (1, 3)), ((4, 2), (-1, -3)), ((1, 2), (2, -1)), ((6, 8), (3, 4 + 25)),
                ((BIG - 1, 0), (BIG // 2, BIG)), ((BIG - 1, 0), (-(BIG // 2), BIG)),
                ((BIG - 1, 0), (BIG // 2, 1)), ((BIG, 0), (0, 1)), ((0, 1), (BIG, 0))]:
            with self.subTest(pair=pair):
                self.leads(pair)
                self.tells_short(pair)

    def test_3_what_was_told_is_led_whatever_its_size(self):
        for start in [((1, 0), (0, 1)), ((4, 0), (2, 5)), ((3, 1), (-2, 4))]:
            great = moved(start, [("less", -BIG), ("turn",)] * 40)
            self.assertGreater(great[0][0].bit_length(), 3000)
            self.leads(great)
            self.tells_short(great)
            self.assertEqual(least_points(great), least_points(start))


class LeastTest(Case):

    def test_24_least_points(self):
        for pair, told in [
                (((1, 0), (0, 1)), [(-1, 0), (0, -1), (0, 1), (1, 0)]),
                (((1, 0), (0, 2)), [(-1, 0), (1, 0)]),
                (((0, 1), (5, 0)), [(0, -1), (0, 1)]),
                (((2, 0), (1, 1)), [(-1, -1), (-1, 1), (1, -1), (1, 1)]),
                (((2, 0), (1, 2)), [(-2, 0), (2, 0)]),
                (((3, 1), (-2, 4)), [(-3, -1), (3, 1)]),
                (((3, 5), (3, -5)), [(-3, -5), (-3, 5), (3, -5), (3, 5)]),
                (((2, 1), (1, 2)), [(-1, 1), (1, -1)]),
                (((1, 0), (BIG, 1)), [(-1, 0), (0, -1), (0, 1), (1, 0)]),
                (((BIG, 0), (0, BIG)), [(-BIG, 0), (0, -BIG), (0, BIG), (BIG, 0)]),
                (((BIG, 0), (0, BIG - 1)), [(0, 1 - BIG), (0, BIG - 1)])]:
            with self.subTest(pair=pair):
                least = least_points(pair)
                self.assertEqual(least, told)
                self.is_plain(least, list)
                for point in least:
                    self.is_plain(point, tuple)

    def test_24_just_the_least_points(self):
        around = [point for point in itertools.product(range(-5, 6), repeat=2) if point != (0, 0)]
        for pair in small_pairs(-3, 3):
            grid = remainders(pair)
            inside = [point for point in around if lies_in(point, grid)]
            length = min(dot(point, point) for point in inside)
            self.assertEqual(
                least_points(pair), [p for p in inside if dot(p, p) == length], pair)

    def test_24_rising_and_two_or_four(self):
        seen = {}
        for pair in itertools.chain(small_pairs(-3, 3), PAIRS):
            least = least_points(pair)
            self.assertEqual(least, sorted(set(least)), pair)
            seen[len(least)] = True
            self.assertIn(short_pair(pair)[0], least)
        # Six points as short would need a room that times itself is three
        # quarters of a length times itself: no whole number is.
        self.assertEqual(sorted(seen), [2, 4])

    def test_24_what_comes_nearest_to_six(self):
        for one, other in [(3, 5), (4, 7), (11, 19), (15, 26), (41, 71), (56, 97), (153, 265)]:
            pair = ((2 * one, 0), (one, other))
            flat, slanted = 4 * one * one, one * one + other * other
            if flat < slanted:
                told = [(-2 * one, 0), (2 * one, 0)]
            else:
                told = [(-one, -other), (-one, other), (one, -other), (one, other)]
            self.assertEqual(least_points(pair), told)
            turned = ((0, 2 * one), (-other, one))
            self.assertEqual(least_points(turned), sorted((-y, x) for x, y in told))

    def test_24_the_same_for_all_pairs_of_a_grid(self):
        for pair in PAIRS:
            told = least_points(pair)
            for moves in [[("turn",)], [("about",)], [("less", BIG), ("turn",), ("less", -3)]]:
                self.assertEqual(least_points(moved(pair, moves)), told)


if __name__ == "__main__":
    unittest.main()
