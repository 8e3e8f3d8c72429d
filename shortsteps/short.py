"""Pairs led by moves to short ones, and the least points of their grids."""

from shortsteps.errors import NoMoves
from shortsteps.grids import is_whole, length, need_pair, opposite, product, reached


def is_short(pair):
    """Whether a pair is short."""
    need_pair(pair)
    first, second = pair
    across = product(first, second)
    return across >= 0 and 2 * across <= length(first) and length(first) <= length(second)


def is_moves(thing):
    """Whether a thing is moves: a list of them."""
    return isinstance(thing, list) and all(is_move(move) for move in thing)


def is_move(thing):
    """Whether a thing is one move."""
    if not isinstance(thing, tuple):
        return False
    if thing == ("turn",) or thing == ("about",):
        return True
    return len(thing) == 2 and thing[0] == "less" and is_whole(thing[1])


def moved(pair, moves):
    """The pair that comes where moves are done, the first one first."""
    need_pair(pair)
    if not is_moves(moves):
        raise NoMoves("these are no moves")
    here = pair
    for move in moves:
        here = done(here, move)
    return here


def done(pair, move):
    """The pair that comes where one move is done."""
    first, second = pair
    if move[0] == "turn":
        return (second, first)
    if move[0] == "about":
        return (first, opposite(second))
    return (first, less_times(second, move[1], first))


def less_times(point, times, other):
    """A point less so many times the other one."""
    return tuple([a - times * b for a, b in zip(point, other)])


def moves_for(pair):
    """Moves that lead a pair to a short one."""
    need_pair(pair)
    moves = []
    here = pair
    while not is_short(here):
        move = move_ahead(here)
        moves.append(move)
        here = done(here, move)
    return moves


def move_ahead(pair):
    """The next move for a pair that is not short."""
    first, second = pair
    # All at once, not one by one: afterwards twice the product is greater than
    # the length below nought, and no greater than the length above nought.
    times = -((length(first) - 2 * product(first, second)) // (2 * length(first)))
    if times != 0:
        return ("less", times)
    # Only a shorter step comes first, so that this ends.
    if length(second) < length(first):
        return ("turn",)
    return ("about",)


def short_pair(pair):
    """A short pair of the same grid."""
    return moved(pair, moves_for(pair))


def least_points(pair):
    """The points of the grid, but (0, 0), of which none is shorter: a rising list."""
    short = short_pair(pair)
    least = length(short[0])
    found = []
    # Of a short pair, what takes either step twice or more is longer than the
    # first step, so only these can be as short.
    for first_times in range(-1, 2):
        for second_times in range(-1, 2):
            point = reached(short, (first_times, second_times))
            if length(point) == least:
                found.append(point)
    return sorted(found)
