"""What shapes take, as forms, and all shapes of a room."""

from math import gcd, isqrt

from shortsteps.grids import need_number
from shortsteps.shapes import is_shape, need_shape

GREATEST_NUMBER = 200


def reach(number):
    """The greatest k such that three quarters of k times k are no greater than a number.

    Of a shape 4 B B is at most A C. So what it takes at (x, y) is at least three
    quarters of A x x, and of C y y; and A C less B B is at least those of A A.
    """
    return isqrt(4 * number // 3)


def taken_at(shape, number):
    """All (x, y) at which a shape takes a number: a rising list."""
    need_shape(shape)
    need_number(number, 0, GREATEST_NUMBER)
    side = reach(number)
    places = [(x, y) for x in range(-side, side + 1) for y in range(-side, side + 1)]
    return [place for place in places if worth(shape, place) == number]


def worth(shape, place):
    """The number that a shape takes at (x, y)."""
    a, b, c = shape
    x, y = place
    return a * x * x + 2 * b * x * y + c * y * y


def shapes_of(number):
    """All shapes whose room times itself is a number: a list, in order."""
    need_number(number, 1, GREATEST_NUMBER)
    found = []
    # Of one A, C rises with B, so they are found in order.
    for a in range(1, reach(number) + 1):
        for b in range(a // 2 + 1):
            c, rest = divmod(number + b * b, a)
            if rest == 0 and is_shape((a, b, c)):
                found.append((a, b, c))
    return found


def is_fine(shape):
    """Whether no whole number above 1 divides all of a shape."""
    need_shape(shape)
    a, b, c = shape
    return gcd(gcd(a, b), c) == 1


def takers(number, taken):
    """The shapes whose room times itself is a number and that take the other one, in order."""
    shapes = shapes_of(number)
    need_number(taken, 1, GREATEST_NUMBER)
    return [shape for shape in shapes if taken_at(shape, taken) != []]
