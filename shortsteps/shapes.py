"""Shapes of the grids of pairs, and what leads from a pair to one of a shape alike."""

from shortsteps.errors import NoShape
from shortsteps.grids import determinant, is_numbers, is_pair, length, need_pair, product, reached
from shortsteps.short import moved, moves_for, short_pair

UNIT = ((1, 0), (0, 1))


def products(pair):
    """The first step's length, the product, and the second step's length."""
    need_pair(pair)
    first, second = pair
    return (length(first), product(first, second), length(second))


def shape(pair):
    """The products of a short pair of the same grid."""
    return products(short_pair(pair))


def is_shape(thing):
    """Whether a thing is a shape: a tuple (A, B, C) as a short pair's products are."""
    if not is_numbers(thing, 3):
        return False
    a, b, c = thing
    return a >= 1 and b >= 0 and 2 * b <= a and a <= c


def need_shape(thing):
    """Refuse what is no shape."""
    if not is_shape(thing):
        raise NoShape("this is no shape")


def is_leading(thing, pair, other):
    """Whether a thing is a leading of a pair to the other one."""
    need_pair(pair)
    need_pair(other)
    if not is_pair(thing) or abs(determinant(thing)) != 1:
        return False
    return products(led(pair, thing)) == products(other)


def led(pair, way):
    """The pair whose steps come where those of a pair are taken as often as a way tells.

    A way is a tuple ((p, q), (r, s)) like a leading. As it is of the same kind
    as a pair, this also tells one way behind the other, in one.
    """
    first, second = way
    return (reached(pair, first), reached(pair, second))


def undone(way):
    """The way back, of a way whose determinant is 1 or -1."""
    (p, q), (r, s) = way
    sign = determinant(way)
    return ((sign * s, -sign * q), (-sign * r, sign * p))


def way_to_short(pair):
    """The way from a pair to a short one of the same grid."""
    # Moves do the same to the steps of each pair, so the unit pair keeps them.
    return moved(UNIT, moves_for(pair))


def leading(pair, other):
    """Some leading of a pair to the other one, None where there is none."""
    need_pair(pair)
    need_pair(other)
    if shape(pair) != shape(other):
        return None
    return led(way_to_short(pair), undone(way_to_short(other)))


def is_ahead(one, other):
    """Whether a shape is ahead of the other one."""
    need_shape(one)
    need_shape(other)
    return rank(one) < rank(other)


def rank(shape):
    """What tells a shape's place in order: A, then C, then B."""
    a, b, c = shape
    return (a, c, b)


def room_squared(shape):
    """The room times itself of the grids that have a shape."""
    need_shape(shape)
    a, b, c = shape
    return a * c - b * b
