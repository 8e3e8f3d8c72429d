"""How many points of a pair's grid lie how far, and which are nearest to a point."""

from math import isqrt

from shortsteps.grids import determinant, length, need_number, need_pair, need_point, numbers_of, reached
from shortsteps.short import less_times, short_pair

GREATEST_LENGTH = 60


def many_of(pair, number):
    """How many points of a pair's grid have just this length."""
    return len([point for point in up_to(pair, number) if length(point) == number])


def up_to(pair, number):
    """The points of a pair's grid that have no greater length: a rising list."""
    need_pair(pair)
    need_number(number, 0, GREATEST_LENGTH)
    # So few points of the plane are short enough that all can be looked at,
    # however great the steps are.
    side = isqrt(number)
    numbers = list(range(-side, side + 1))
    plane = [(x, y) for x in numbers for y in numbers if x * x + y * y <= number]
    return [point for point in plane if numbers_of(pair, point) is not None]


def nearest_length(pair, point):
    """The least length that a point less a point of the grid can have."""
    return apart(point, nearest(pair, point)[0])


def nearest(pair, point):
    """The points of a pair's grid that are nearest to a point: a rising list."""
    need_pair(pair)
    need_point(point, 2)
    # No angle of the two halves of a short pair's parallelogram is blunt, so
    # all nearest points are corners of the one that the point lies in.
    corners = corners_around(short_pair(pair), point)
    least = min([apart(point, corner) for corner in corners])
    return sorted([corner for corner in corners if apart(point, corner) == least])


def corners_around(pair, point):
    """The corners of the parallelogram of the pair's steps in which a point lies."""
    first, second = pair
    whole = determinant(pair)
    across = determinant((point, second)) // whole
    along = determinant((first, point)) // whole
    return [reached(pair, (across + one, along + other)) for one in range(2) for other in range(2)]


def apart(one, other):
    """The length of a point less the other one."""
    return length(less_times(one, 1, other))
