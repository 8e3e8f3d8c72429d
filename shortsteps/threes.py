"""Fours of three steps, folded till they are blunt, and the least points in space."""

from shortsteps.errors import NoFour, NoMoves, NoThree
from shortsteps.grids import is_point, is_same, is_steps, is_whole, length, opposite, product


def need_three(thing):
    """Refuse what is no three steps."""
    if not is_steps(thing) or len(thing) != 3:
        raise NoThree("these are no three steps")


def is_four(thing, steps):
    """Whether a thing is a four of three steps."""
    need_three(steps)
    if not isinstance(thing, tuple) or len(thing) != 4:
        return False
    three, last = thing[:3], thing[3]
    if not is_steps(three) or not is_point(last):
        return False
    return last == fourth(three) and is_same(steps, three)


def need_four(thing, steps):
    """Refuse what is no four of the three steps."""
    if not is_four(thing, steps):
        raise NoFour("this is no four of the steps")


def together(one, other):
    """What two points come to together."""
    return tuple([a + b for a, b in zip(one, other)])


def fourth(three):
    """The opposite of what three points come to together."""
    first, second, third = three
    return opposite(together(together(first, second), third))


def is_blunt(steps, four):
    """Whether of a four of three steps no product of two is above nought."""
    need_three(steps)
    need_four(four, steps)
    return fold_ahead(four) is None


def fold_ahead(four):
    """The next fold for a four, None where it is blunt."""
    # The shortest points go first: led by the greatest product instead, steps
    # with numbers below a thousand may need some ten thousands of folds.
    for place in sorted(range(4), key=lambda at: length(four[at])):
        for other in range(4):
            if other != place and product(four[place], four[other]) > 0:
                return (place, other)
    return None


def is_folds(thing):
    """Whether a thing is folds: a list of them."""
    return isinstance(thing, list) and all(is_fold(fold) for fold in thing)


def is_fold(thing):
    """Whether a thing is a fold: a tuple of two unlike places."""
    if not isinstance(thing, tuple) or len(thing) != 2:
        return False
    if not all(is_whole(place) and 0 <= place <= 3 for place in thing):
        return False
    return thing[0] != thing[1]


def folded(steps, four, folds):
    """The four that comes where folds are done, the first one first."""
    need_three(steps)
    need_four(four, steps)
    if not is_folds(folds):
        raise NoMoves("these are no folds")
    here = four
    for fold in folds:
        here = folded_once(here, fold)
    return here


def folded_once(four, fold):
    """The four that comes where one fold is done."""
    turned, kept = fold
    told = []
    for place in range(4):
        if place == turned:
            told.append(opposite(four[place]))
        elif place == kept:
            told.append(four[place])
        else:
            told.append(together(four[place], four[turned]))
    return tuple(told)


def first_four(steps):
    """The four of the steps and of the opposite of what they come to together."""
    return steps + (fourth(steps),)


def folds_for(steps):
    """Folds that lead the first four of three steps to a blunt one."""
    need_three(steps)
    folds = []
    here = first_four(steps)
    fold = fold_ahead(here)
    # Each of these folds lessens what all four lengths come to, so this ends.
    while fold is not None:
        folds.append(fold)
        here = folded_once(here, fold)
        fold = fold_ahead(here)
    return folds


def blunt_four(steps):
    """A blunt four of three steps."""
    need_three(steps)
    return folded(steps, first_four(steps), folds_for(steps))


def least_of_three(steps):
    """The points of the grid, but (0, 0, 0), of which none is shorter: a rising list."""
    four = blunt_four(steps)
    found = list(four)
    for place in range(4):
        for other in range(place):
            found.append(together(four[place], four[other]))
        # Three of a four are together the opposite of what is left.
        found.append(opposite(four[place]))
    least = min([length(point) for point in found])
    return sorted([point for point in found if length(point) == least])
