"""Keepers of a pair: the ways by which its grid is turned or mirrored to itself."""

from shortsteps.errors import NoKeeper
from shortsteps.grids import determinant, need_pair
from shortsteps.shapes import UNIT, is_leading, led, undone, way_to_short


def is_keeper(thing, pair):
    """Whether a thing is a keeper of a pair: a leading of it to itself."""
    return is_leading(thing, pair, pair)


def need_keeper(thing, pair):
    """Refuse what is no keeper of the pair."""
    if not is_keeper(thing, pair):
        raise NoKeeper("this is no keeper of the pair")


def keepers(pair):
    """All keepers of a pair, a rising list."""
    need_pair(pair)
    there = way_to_short(pair)
    back = undone(there)
    # A keeper goes to the short pair, keeps that, and comes back.
    return sorted([led(led(there, way), back) for way in keepers_of_short(led(pair, there))])


def keepers_of_short(short):
    """All keepers of a pair that is short."""
    # None of them takes a step twice or more: what comes would be too long, or
    # that number would divide the determinant.
    rows = [(one, other) for one in range(-1, 2) for other in range(-1, 2)]
    ways = [(first, second) for first in rows for second in rows]
    return [way for way in ways if is_keeper(way, short)]


def behind(pair, one, other):
    """The keeper that does, in one, what one keeper and then the other one do."""
    need_pair(pair)
    need_keeper(one, pair)
    need_keeper(other, pair)
    return led(one, other)


def undoing(pair, keeper):
    """The keeper that undoes a keeper of the pair."""
    need_pair(pair)
    need_keeper(keeper, pair)
    return undone(keeper)


def often(pair, keeper):
    """How often a keeper of the pair is done till all is as at first."""
    need_pair(pair)
    need_keeper(keeper, pair)
    times = 1
    here = keeper
    while here != UNIT:
        here = led(here, keeper)
        times = times + 1
    return times


def mirrors_many(pair):
    """How many of the keepers of a pair are mirrors."""
    return len([keeper for keeper in keepers(pair) if determinant(keeper) == -1])
