"""Points 1 and 6: the whole, over all grids of the plane whose room is 12 at most."""

import itertools
import unittest

from shortsteps.changes import mates, mirrored, turned
from shortsteps.desk import Desk
from shortsteps.forms import shapes_of, taken_at
from shortsteps.grids import is_same, numbers_of, room
from shortsteps.parts import both_have, both_make, flat, is_part, parts_of
from shortsteps.points import many_of, nearest, up_to
from shortsteps.shapes import is_leading, leading, shape
from shortsteps.short import is_short, least_points, moved, moves_for, short_pair
from shortsteps.texts import read, show
from shortsteps.turns import keepers
from tests.things import Case, changed, det, dot, products_by_words, shape_by_words

UNIT = ((1, 0), (0, 1))
GRIDS = [pair for number in range(1, 13) for pair in parts_of(UNIT, number)]


class WholeTest(Case):

    def test_1_all_grids_are_there_once(self):
        numbers = range(1, 13)
        told = [
            ((a, b), (0, d)) for a, d in itertools.product(numbers, repeat=2) if a * d <= 12
            for b in range(d)]
        self.assertEqual(sorted(GRIDS), sorted(told))
        for one, other in itertools.product(GRIDS, repeat=2):
            self.assertIs(is_same(one, other), one == other)

    def test_6_moves_keep_the_grid_and_lead_to_short_steps(self):
        for pair in GRIDS:
            there = moved(pair, moves_for(pair))
            self.assertEqual(flat(there), pair)
            self.assertIs(is_short(there), True)
            self.assertEqual(flat(short_pair(pair)), pair)
            for moves in [[("turn",), ("less", 7)], [("about",), ("turn",), ("less", -3)]]:
                self.assertEqual(flat(moved(pair, moves)), pair)
                self.assertEqual(room(moved(pair, moves)), room(pair))

    def test_6_one_shape_just_where_a_leading_goes_from_the_one_to_the_other(self):
        shapes = [shape_by_words(pair) for pair in GRIDS]
        for (pair, one), (other, another) in itertools.product(zip(GRIDS, shapes), repeat=2):
            told = leading(pair, other)
            self.assertIs(told is not None, one == another, (pair, other))
            if told is not None:
                self.assertIn(det(told), (1, -1))
                self.assertEqual(
                    products_by_words(changed(pair, told)), products_by_words(other))
                self.assertIs(is_leading(told, pair, other), True)

    def test_6_keepers_keep_all_products(self):
        for pair in GRIDS:
            for keeper in keepers(pair):
                there = changed(pair, keeper)
                self.assertEqual(flat(there), pair)
                self.assertEqual(products_by_words(there), products_by_words(pair))

    def test_6_points_that_are_counted_are_just_those_of_the_grid(self):
        for pair in GRIDS:
            points = up_to(pair, 60)
            for point in points + least_points(pair) + nearest(pair, (5, -8)):
                self.assertIsNotNone(numbers_of(pair, point))
            for number in (0, 1, 4, 5, 25, 50, 60):
                told = [point for point in points if dot(point, point) == number]
                self.assertEqual(many_of(pair, number), len(told))
                self.assertEqual(len(taken_at(shape(pair), number)), len(told))

    def test_6_shapes_of_parts_and_changed_grids(self):
        for pair in GRIDS:
            self.assertIn(shape(pair), shapes_of(room(pair) * room(pair)))
            for other in [turned(pair), mirrored(pair), mates(pair)]:
                self.assertEqual(shape(other), shape(pair))
                self.assertIs(is_part(both_have(pair, other), other), True)
                self.assertIs(is_part(other, both_make(pair, other)), True)

    def test_6_a_desk_tells_what_the_functions_tell(self):
        desk = Desk()
        for pair in GRIDS:
            self.assertEqual(desk.say("pair " + show(pair)), show(pair))
            self.assertEqual(desk.say("room"), str(room(pair)))
            self.assertEqual(desk.say("short"), "yes" if is_short(pair) else "no")
            self.assertEqual(tuple(int(word) for word in desk.say("shape").split(" ")), shape(pair))
            self.assertEqual(desk.say("keepers"), str(len(keepers(pair))))
            self.assertEqual(read(desk.say("flat")), pair)
            self.assertEqual(desk.say("many 25"), str(many_of(pair, 25)))
            for line, points in [("least", least_points(pair)), ("near 5,-8", nearest(pair, (5, -8)))]:
                told = [tuple(int(part) for part in word.split(","))
                        for word in desk.say(line).split(" ")]
                self.assertEqual(told, points)


if __name__ == "__main__":
    unittest.main()
