"""What several test files share: things of whatever kind, and ways to ask."""

import itertools
import signal
import unittest

from shortsteps.errors import StepError

BIG = 10 ** 30 - 1

# What is neither a point nor steps nor moves, nor a text of steps.
STRANGE = [
    None, True, False, 0, 1, -1, 7, BIG, -BIG,
    "", " ", "x", "12", "turn", "abc", "1,0", "none",
    [], {}, (), [[]], [()], ((),), ((), ()), ({}, {}), ([], []),
    (1,), (1, 2, 3, 4), [1, 2], [1, 2, 3], {1: 2, 3: 4}, {"a": 1, "b": 2},
    (True, False), (True, 1), (1, False), (1, 2, True), (None, None),
    ("1", "2"), (1, "2"), ("1", 2), (1, None), (1, 2, None), (1, [2]), ((1,), 2),
    ([1], [2]), (1, {}), ({}, 1), ("a", "b", "c"), ("turn",), ("less", 1),
    [(1, 0), (0, 1)], [[1, 0], [0, 1]], ([1, 0], [0, 1]), ((1, 0), [0, 1]),
    ([1, 0], (0, 1)), {(1, 0): (0, 1)}, {(1, 0): 1, (0, 1): 2},
    ((1, 0),), ((1, 0), 1), (1, (0, 1)), ((1, 0), None), (None, (0, 1)),
    ((1, 0), "01"), ("10", "01"), ((1, 0), ()), ((1, 0), (1,)),
    ((1,), (2,)), ((1, 0), (0, 1), (1, 1)), ((1, 0), (0, 1), (1, 1), (2, 3)),
    ((1, 0, 0), (0, 1, 0)), ((1, 0, 0), (0, 1)), ((1, 0), (0, 1, 0)),
    ((1, 0, 0), (0, 1, 0), (0, 1)), ((1, 0), (0, 1, 0), (0, 0, 1)),
    ((1, 0, 0, 0), (0, 1, 0, 0), (0, 0, 1, 0), (0, 0, 0, 1)),
    ((True, 0), (0, 1)), ((1, False), (0, 1)), ((1, 0), (0, True)),
    ((1, 0), (False, 1)), ((1, 0, 0), (0, 1, 0), (0, 0, True)),
    ((1, 0), (0, "1")), ((1, 0), (None, 1)), ((1, 0), ([], 1)), ((1, 0), (0, (1,))),
    ((0, 0), (0, 0)), ((1, 2), (2, 4)), ((3, -6), (-1, 2)), ((0, 0), (1, 1)),
    ((BIG, BIG), (BIG, BIG)), ((BIG, 1), (-BIG, -1)),
    ((1, 2, 3), (4, 5, 6), (7, 8, 9)), ((0, 0, 0), (0, 1, 0), (0, 0, 1)),
    ((1, 0, 1), (0, 1, 1), (1, 1, 2)),
    [[[[[[1]]]]]], ((((((1,),),),),),), {"a": {"b": {"c": {"d": {"e": {}}}}}},
    [({"a": [(None, "b")]},)], ((((1, 0), (0, 1)),),), [((1, 0), (0, 1))],
]

POINTS = [(1, 2), (1, 2, 3), (0, 0)]

# Of width two and three, plain and less so; all are steps.
PAIRS = [
    ((1, 0), (0, 1)), ((0, 1), (1, 0)), ((3, 1), (-2, 4)), ((2, 0), (1, 1)),
    ((-1, 0), (0, -1)), ((5, 8), (3, 5)), ((0, -7), (4, 2)), ((4, 0), (2, 5)),
    ((1, 0), (BIG, 1)), ((BIG, 0), (0, BIG)), ((BIG, BIG - 1), (BIG - 2, BIG)),
    ((-BIG, 3), (10 ** 29 + 1, -BIG + 5)),
]
THREES = [
    ((1, 0, 0), (0, 1, 0), (0, 0, 1)), ((0, 1, 0), (1, 0, 0), (0, 0, 1)),
    ((3, 1, 0), (-2, 4, 1), (0, 5, -6)), ((1, 1, 0), (1, 0, 1), (0, 1, 1)),
    ((-2, 0, 0), (0, -3, 0), (0, 0, -5)),
    ((BIG, 1, 0), (0, BIG, 1), (1, 0, BIG)), ((1, 0, 0), (BIG, 1, 0), (-BIG, BIG, 1)),
]


def is_int(thing, *numbers):
    """Whether a thing is one of these numbers, and neither True nor False."""
    return type(thing) is int and thing in numbers


def small_pairs(least, greatest):
    """All pairs whose numbers lie between the two."""
    numbers = range(least, greatest + 1)
    for a, b, c, d in itertools.product(numbers, repeat=4):
        if a * d - b * c != 0:
            yield ((a, b), (c, d))


def det_of_three(steps):
    """The determinant by the signs of the six orders."""
    (a, b, c), (d, e, f), (g, h, i) = steps
    return a * e * i + b * f * g + c * d * h - c * e * g - b * d * i - a * f * h


def small_threes(every):
    """Each so manieth three steps whose numbers are -1, 0, 1 or 2."""
    rows = itertools.product(range(-1, 3), repeat=9)
    for row in itertools.islice(rows, 0, None, every):
        steps = (row[:3], row[3:6], row[6:])
        if det_of_three(steps) != 0:
            yield steps


def det(steps):
    """The determinant, found apart from the program."""
    if len(steps) == 2:
        (a, b), (c, d) = steps
        return a * d - b * c
    return det_of_three(steps)


def dot(one, other):
    """A product, found apart from the program."""
    return sum(a * b for a, b in zip(one, other))


def plane(reach):
    """The points about nought, so far to each side, rising."""
    return list(itertools.product(range(-reach, reach + 1), repeat=2))


def grid_points(pair, reach):
    """The points of a pair's grid about nought, found apart from the program, rising."""
    (a, b), (c, d) = pair
    whole = a * d - b * c
    return [
        (x, y) for x, y in plane(reach)
        if (x * d - y * c) % whole == 0 and (a * y - b * x) % whole == 0]


def changed(steps, way):
    """Each row of a way tells how often the steps are taken for a new one."""
    return tuple(
        tuple(sum(n * step[at] for n, step in zip(row, steps)) for at in range(len(steps)))
        for row in way)


def products_by_words(pair):
    """The products of a pair, found apart from the program."""
    first, second = pair
    return (dot(first, first), dot(first, second), dot(second, second))


def shape_by_words(pair):
    """The shape of a pair, found apart from the program: by its products alone."""
    a, b, c = products_by_words(pair)
    while True:
        k = (2 * b + a) // (2 * a)
        b, c = b - k * a, c - 2 * k * b + k * k * a
        if a <= c:
            return (a, abs(b), c)
        a, c = c, a


def climb(many):
    """A way whose numbers grow with each of so many turns."""
    way = ((1, 0), (0, 1))
    for turn in range(many):
        way = (way[1], tuple(x + (turn % 3 + 1) * y for x, y in zip(*way)))
    return way


# Ways from one pair of a grid to another one: their determinant is 1 or -1.
# Steps of few figures become such of thirteen, and of thirty.
WAYS = [
    ((1, 0), (9876543210987, 1)), ((1, -8765432109873), (0, 1)), ((0, 1), (1, 7654321098765)),
    ((-1, 0), (5000000000000, 1)), climb(35), changed(climb(31), ((0, -1), (1, 3))),
]
GREAT_WAYS = [
    ((1, 0), (10 ** 28 + 7, 1)), ((3 - 10 ** 28, -1), (1, 0)), climb(79),
    changed(climb(73), ((0, 1), (-1, 7))),
]


def remainders(steps):
    """The grid within one block: it repeats after its room to each side."""
    block = abs(det(steps))
    width = len(steps)
    found = set()
    for numbers in itertools.product(range(block), repeat=width):
        found.add(tuple(
            sum(n * step[at] for n, step in zip(numbers, steps)) % block
            for at in range(width)))
    return block, frozenset(found)


def lies_in(point, grid):
    """Whether a point is one of a grid told by `remainders`."""
    block, found = grid
    return tuple(number % block for number in point) in found


def late(_number, _frame):
    raise AssertionError("this goes on too long: what is great is gone through one by one?")


class Case(unittest.TestCase):
    """A test case that fails instead of going on for ever, and asks for refusals."""

    def setUp(self):
        before = signal.signal(signal.SIGALRM, late)
        self.addCleanup(signal.signal, signal.SIGALRM, before)
        # Again and again: a subtest that fails so is followed by the next one.
        signal.setitimer(signal.ITIMER_REAL, 20, 0.2)
        self.addCleanup(signal.setitimer, signal.ITIMER_REAL, 0)

    def refused(self, kind, function, *arguments):
        """The function refuses with just this class."""
        with self.subTest(function=function.__name__, arguments=arguments):
            with self.assertRaises(StepError) as caught:
                function(*arguments)
            self.assertIs(type(caught.exception), kind)

    def is_plain(self, thing, kind):
        """The thing is of this very kind, True and False being no ints."""
        self.assertIs(type(thing), kind)
