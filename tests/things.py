"""What several test files share: things of whatever kind, and ways to ask."""

import itertools
import signal
import unittest

from shortsteps.errors import StepError

BIG = 10 ** 30 - 1

# What is neither a point nor steps nor moves, nor a text of steps.
STRANGE = [
    None, True, False, 0, 1, -1, 7, BIG, -BIG,
    "", " ", "x", "12", "turn", "abc", "1,0", "none",
    [], {}, (), [[]], [()], ((),), ((), ()), ({}, {}), ([], []),
    (1,), (1, 2, 3, 4), [1, 2], [1, 2, 3], {1: 2, 3: 4}, {"a": 1, "b": 2},
    (True, False), (True, 1), (1, False), (1, 2, True), (None, None),
    ("1", "2"), (1, "2"), ("1", 2), (1, None), (1, 2, None), (1, [2]), ((1,), 2),
    ([1], [2]), (1, {}), ({}, 1), ("a", "b", "c"), ("turn",), ("less", 1),
    [(1, 0), (0, 1)], [[1, 0], [0, 1]], ([1, 0], [0, 1]), ((1, 0), [0, 1]),
    ([1, 0], (0, 1)), {(1, 0): (0, 1)}, {(1, 0): 1, (0, 1): 2},
    ((1, 0),), ((1, 0), 1), (1, (0, 1)), ((1, 0), None), (None, (0, 1)),
    ((1, 0), "01"), ("10", "01"), ((1, 0), ()), ((1, 0), (1,)),
    ((1,), (2,)), ((1, 0), (0, 1), (1, 1)), ((1, 0), (0, 1), (1, 1), (2, 3)),
    ((1, 0, 0), (0, 1, 0)), ((1, 0, 0), (0, 1)), ((1, 0), (0, 1, 0)),
    ((1, 0, 0), (0, 1, 0), (0, 1)), ((1, 0), (0, 1, 0), (0, 0, 1)),
    ((1, 0, 0, 0), (0, 1, 0, 0), (0, 0, 1, 0), (0, 0, 0, 1)),
    ((True, 0), (0, 1)), ((1, False), (0, 1)), ((1, 0), (0, True)),
    ((1, 0), (False, 1)), ((1, 0, 0), (0, 1, 0), (0, 0, True)),
    ((1, 0), (0, "1")), ((1, 0), (None, 1)), ((1, 0), ([], 1)), ((1, 0), (0, (1,))),
    ((0, 0), (0, 0)), ((1, 2), (2, 4)), ((3, -6), (-1, 2)), ((0, 0), (1, 1)),
    ((BIG, BIG), (BIG, BIG)), ((BIG, 1), (-BIG, -1)),
    ((1, 2, 3), (4, 5, 6), (7, 8, 9)), ((0, 0, 0), (0, 1, 0), (0, 0, 1)),
    ((1, 0, 1), (0, 1, 1), (1, 1, 2)),
    [[[[[[1]]]]]], ((((((1,),),),),),), {"a": {"b": {"c": {"d": {"e": {}}}}}},
    [({"a": [(None, "b")]},)], ((((1, 0), (0, 1)),),), [((1, 0), (0, 1))],
]

# Of width two and three, plain and less so; all are steps.
PAIRS = [
    ((1, 0), (0, 1)), ((0, 1), (1, 0)), ((3, 1), (-2, 4)), ((2, 0), (1, 1)),
    ((-1, 0), (0, -1)), ((5, 8), (3, 5)), ((0, -7), (4, 2)), ((4, 0), (2, 5)),
    ((1, 0), (BIG, 1)), ((BIG, 0), (0, BIG)), ((BIG, BIG - 1), (BIG - 2, BIG)),
    ((-BIG, 3), (10 ** 29 + 1, -BIG + 5)),
]
THREES = [
    ((1, 0, 0), (0, 1, 0), (0, 0, 1)), ((0, 1, 0), (1, 0, 0), (0, 0, 1)),
    ((3, 1, 0), (-2, 4, 1), (0, 5, -6)), ((1, 1, 0), (1, 0, 1), (0, 1, 1)),
    ((-2, 0, 0), (0, -3, 0), (0, 0, -5)),
    ((BIG, 1, 0), (0, BIG, 1), (1, 0, BIG)), ((1, 0, 0), (BIG, 1, 0), (-BIG, BIG, 1)),
]


def small_pairs(least, greatest):
    """All pairs whose numbers lie between the two."""
    numbers = range(least, greatest + 1)
    for a, b, c, d in itertools.product(numbers, repeat=4):
        if a * d - b * c != 0:
            yield ((a, b), (c, d))


def det_of_three(steps):
    """The determinant by the signs of the six orders."""
    (a, b, c), (d, e, f), (g, h, i) = steps
    return a * e * i + b * f * g + c * d * h - c * e * g - b * d * i - a * f * h


def small_threes(every):
    """Each so manieth three steps whose numbers are -1, 0, 1 or 2."""
    rows = itertools.product(range(-1, 3), repeat=9)
    for row in itertools.islice(rows, 0, None, every):
        steps = (row[:3], row[3:6], row[6:])
        if det_of_three(steps) != 0:
            yield steps


def det(steps):
    """The determinant, found apart from the program."""
    if len(steps) == 2:
        (a, b), (c, d) = steps
        return a * d - b * c
    return det_of_three(steps)


def remainders(steps):
    """The grid within one block: it repeats after its room to each side."""
    block = abs(det(steps))
    width = len(steps)
    found = set()
    for numbers in itertools.product(range(block), repeat=width):
        found.add(tuple(
            sum(n * step[at] for n, step in zip(numbers, steps)) % block
            for at in range(width)))
    return block, frozenset(found)


def lies_in(point, grid):
    """Whether a point is one of a grid told by `remainders`."""
    block, found = grid
    return tuple(number % block for number in point) in found


def late(_number, _frame):
    raise AssertionError("this goes on too long: what is great is gone through one by one?")


class Case(unittest.TestCase):
    """A test case that fails instead of going on for ever, and asks for refusals."""

    def setUp(self):
        before = signal.signal(signal.SIGALRM, late)
        self.addCleanup(signal.signal, signal.SIGALRM, before)
        # Again and again: a subtest that fails so is followed by the next one.
        signal.setitimer(signal.ITIMER_REAL, 20, 0.2)
        self.addCleanup(signal.setitimer, signal.ITIMER_REAL, 0)

    def refused(self, kind, function, *arguments):
        """The function refuses with just this class."""
        with self.subTest(function=function.__name__, arguments=arguments):
            with self.assertRaises(StepError) as caught:
                function(*arguments)
            self.assertIs(type(caught.exception), kind)

    def is_plain(self, thing, kind):
        """The thing is of this very kind, True and False being no ints."""
        self.assertIs(type(thing), kind)
