"""Pairs grown, turned and mirrored, and the mates of a grid."""

from shortsteps.grids import is_same, need_number, need_pair
from shortsteps.parts import flat, many_times

GREATEST_GROWTH = 9


def grown(pair, number):
    """A pair with each number of its points so many times."""
    need_pair(pair)
    need_number(number, 1, GREATEST_GROWTH)
    return many_times(pair, number)


def turned(pair):
    """A pair with each point (x, y) as (0 less y, x)."""
    need_pair(pair)
    return tuple([(-y, x) for x, y in pair])


def mirrored(pair):
    """A pair with each point (x, y) as (x, 0 less y)."""
    need_pair(pair)
    return tuple([(x, -y) for x, y in pair])


def keeps_turned(pair):
    """Whether a pair's grid, turned, is the same."""
    return is_same(turned(pair), pair)


def keeps_mirrored(pair):
    """Whether a pair's grid, mirrored, is the same."""
    return is_same(mirrored(pair), pair)


def mates(pair):
    """The flat pair of the points whose products with the grid's are a whole many times its room."""
    # The product of a turned point with another one is the determinant of
    # both, so the mates are just the points of the grid, turned.
    return flat(turned(pair))
