"""Flat pairs, parts of grids, and what two grids have and make."""

from math import gcd

from shortsteps.errors import NoPart
from shortsteps.grids import need_number, need_pair, numbers_of, opposite, room
from shortsteps.shapes import led
from shortsteps.short import less_times

GREATEST_TIMES = 12


def flat(pair):
    """The flat pair of a pair's grid."""
    need_pair(pair)
    return flat_of(pair)


def flat_of(points):
    """The flat pair of the grid of all that comes of these points, a pair among them."""
    first = (0, 0)
    upright = 0
    for point in points:
        first, rest = led_upright(first, point)
        upright = gcd(upright, rest[1])
    if first[0] < 0:
        first = opposite(first)
    return ((first[0], first[1] % upright), (0, upright))


def led_upright(one, other):
    """Two points that make what these two make, the second one with nought ahead."""
    first, second = one, other
    while second[0] != 0:
        first, second = second, less_times(first, first[0] // second[0], second)
    return first, second


def need_pairs(one, other):
    """Refuse two things of which either is no pair."""
    need_pair(one)
    need_pair(other)


def is_part(one, other):
    """Whether each point of the one's grid is a point of the other one's."""
    need_pairs(one, other)
    return all(numbers_of(other, step) is not None for step in one)


def times_of(one, other):
    """How many times the other one's grid its part, the one's grid, is."""
    if not is_part(one, other):
        raise NoPart("the one grid is no part of the other one")
    return room(one) // room(other)


def parts_of(pair, number):
    """The flat pairs of all parts of a pair's grid that are so many times: a rising list."""
    need_pair(pair)
    need_number(number, 1, GREATEST_TIMES)
    # Parts of the grid are to its steps as those of the plane are to the unit
    # steps, and of these each has one flat pair, whose room is the number.
    sides = [(a, number // a) for a in range(1, number + 1) if number % a == 0]
    ways = [((a, b), (0, d)) for a, d in sides for b in range(d)]
    return sorted([flat(led(pair, way)) for way in ways])


def both_make(one, other):
    """The flat pair of the grid that the points of both grids make together."""
    need_pairs(one, other)
    return flat_of(one + other)


def both_have(one, other):
    """The flat pair of the grid of all points that are in both grids."""
    need_pairs(one, other)
    # The points whose products with a grid's are whole numbers are the grid,
    # turned, divided by its room; and of what two grids have, they are what
    # those of both make. So what both have is what both make, each of them
    # grown by the other one's room, and only has to be brought to its size.
    whole = room(one) * room(other)
    made = both_make(many_times(one, room(other)), many_times(other, room(one)))
    return tuple([tuple([number * whole // room(made) for number in step]) for step in made])


def many_times(pair, times):
    """A pair with each number of its points so many times."""
    return tuple([tuple([times * number for number in step]) for step in pair])
