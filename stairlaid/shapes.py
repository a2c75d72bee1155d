"""Shapes of STAIRS, and the sums of them that all LAYINGS of a FLOOR have alike."""

from stairlaid.alls import all_layings
from stairlaid.cans import lay
from stairlaid.errors import Unfit
from stairlaid.layings import cells_of, fit_laying, fit_stair, size_of
from stairlaid.turns import turned
from stairlaid.values import frozen, is_number


def shape(stair):
    """The steps of a STAIR, a tuple."""
    _, steps = fit_stair(stair)
    return steps


def shapes(laying):
    """The SHAPES of laying: the set of the pairs (steps, how many of its STAIRS have them)."""
    return _shapes(fit_laying(laying))


def _shapes(laying):
    many = {}
    for _, steps in laying:
        many[steps] = many.get(steps, 0) + 1
    return tuple(sorted(many.items()))


def ups(laying, number):
    """How many STAIRS of laying have 1 for STEP number; Unfit() if it is not from 1 to size - 1."""
    own = fit_laying(laying)
    if not is_number(number) or not 1 <= number < size_of(own[0]):
        raise Unfit()
    return _ups(own, number)


def _ups(laying, number):
    return sum([steps[number - 1] for _, steps in laying])


def sums(laying):
    """The SUMS of laying: for each number below half its size the UPS of it less those from the other end."""
    own = fit_laying(laying)
    size = size_of(own[0])
    return tuple([_ups(own, number) - _ups(own, size - number) for number in range(1, (size + 1) // 2)])


def middles(laying):
    """The MIDDLES of laying: the places of the CELLS as far from the first as from the last, added up."""
    own = fit_laying(laying)
    half = (size_of(own[0]) + 1) // 2
    rows = [[x - y for x, y in cells_of(stair)] for stair in own]
    return tuple([sum([row[far] + row[-1 - far] for row in rows]) for far in range(half)])


def sums_of(floor, size):
    """The SUMS of whatever LAYING of floor; CanNot() if there is none."""
    return sums(lay(floor, size))


def middles_of(floor, size):
    """The MIDDLES of whatever LAYING of floor; CanNot() if there is none."""
    return middles(lay(floor, size))


def shapes_behind(laying, pair):
    """The SHAPES of the LAYING behind this TURN; NoName(name) for no NAME, CanNot() if it is none."""
    return _shapes(turned(laying, pair))


def can_have(floor, size, shapes):
    """Whether some LAYING of floor has just these SHAPES; TooMany() if it has more than 400 LAYINGS."""
    return frozen(shapes) in [_shapes(laying) for laying in all_layings(floor, size)]
