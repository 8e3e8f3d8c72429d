"""Points, steps and the grids that steps make."""

from shortsteps.errors import NoNumber, NoPair, NoPoint, NoSteps


def is_whole(thing):
    """Whether a thing is a whole number."""
    # True and False are ints to Python, but no whole numbers here.
    return isinstance(thing, int) and not isinstance(thing, bool)


def is_point(thing):
    """Whether a thing is a point: a tuple of two or three whole numbers."""
    if not isinstance(thing, tuple) or len(thing) not in (2, 3):
        return False
    return all(is_whole(number) for number in thing)


def is_steps(thing):
    """Whether a thing is steps: as many points as wide, of a determinant that is not nought."""
    if not isinstance(thing, tuple) or len(thing) not in (2, 3):
        return False
    if not all(is_point(point) and len(point) == len(thing) for point in thing):
        return False
    return determinant(thing) != 0


def is_pair(thing):
    """Whether a thing is two steps."""
    return is_steps(thing) and len(thing) == 2


def need_steps(thing):
    """Refuse what is no steps."""
    if not is_steps(thing):
        raise NoSteps("these are no steps")


def need_pair(thing):
    """Refuse what is no pair."""
    if not is_pair(thing):
        raise NoPair("these are no two steps")


def need_point(thing, width):
    """Refuse what is no point of this width."""
    if not is_point(thing) or len(thing) != width:
        raise NoPoint("this is no point of the width that is needed")


def need_number(thing, least, greatest):
    """Refuse what is no whole number from the least one to the greatest one."""
    if not is_whole(thing) or thing < least or thing > greatest:
        raise NoNumber("this is no whole number as it is asked for")


def determinant(steps):
    """The determinant of two or three points."""
    if len(steps) == 2:
        (a, b), (c, d) = steps
        return a * d - b * c
    (a, b, c), second, third = steps
    without_first = determinant((second[1:], third[1:]))
    without_second = determinant(((second[0], second[2]), (third[0], third[2])))
    without_third = determinant((second[:2], third[:2]))
    return a * without_first - b * without_second + c * without_third


def product(one, other):
    """The product of two points of one width."""
    if not is_point(one):
        raise NoPoint("the first one is no point")
    need_point(other, len(one))
    return sum([a * b for a, b in zip(one, other)])


def length(point):
    """The product of a point with itself."""
    return product(point, point)


def opposite(point):
    """A point with each number below nought for above."""
    return tuple([-number for number in point])


def room(steps):
    """The determinant of steps without its sign."""
    need_steps(steps)
    return abs(determinant(steps))


def reached(steps, numbers):
    """The point that comes where each step is taken so many times, all together."""
    need_steps(steps)
    if not is_numbers(numbers, len(steps)):
        raise NoNumber("as many whole numbers as steps are needed, in a tuple")
    return tuple([made_at(steps, numbers, at) for at in range(len(steps))])


def is_numbers(thing, many):
    """Whether a thing is a tuple of so many whole numbers."""
    if not isinstance(thing, tuple) or len(thing) != many:
        return False
    return all(is_whole(number) for number in thing)


def made_at(steps, numbers, at):
    """What the steps, each taken so many times, come to at one place of their points."""
    return sum([number * step[at] for number, step in zip(numbers, steps)])


def numbers_of(steps, point):
    """How often each step is taken to come to a point; None where it is not of the grid."""
    need_steps(steps)
    need_point(point, len(steps))
    whole = determinant(steps)
    numbers = []
    for at in range(len(steps)):
        # Cramer's rule: whole numbers all the way, whatever their size.
        share = determinant(steps[:at] + (point,) + steps[at + 1:])
        if share % whole != 0:
            return None
        numbers.append(share // whole)
    return tuple(numbers)


def is_same(steps, other):
    """Whether both steps have the same grid."""
    need_steps(steps)
    need_steps(other)
    if len(steps) != len(other) or room(steps) != room(other):
        return False
    # A grid that lies in another one of the same room is all of it.
    return all(numbers_of(other, step) is not None for step in steps)
