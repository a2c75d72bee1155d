"""COUNTS: how many STAIRS of each foot all LAYINGS of a FLOOR have."""

from stairlaid.cells import fit_floor
from stairlaid.errors import CanNot
from stairlaid.values import fit_size


def counts(floor, size):
    """The tuple of the pairs (foot, COUNT), ascending, of all feet whose COUNT is not 0."""
    return tuple([(foot, many) for foot, many in _counted(floor, size) if many != 0])


def _counted(floor, size):
    """The list of the pairs (foot, COUNT) of all diagonals of floor, maybe 0 too."""
    own = fit_floor(floor)
    fit_size(size)
    wide = {}
    for x, y in own:
        wide[x + y] = wide.get(x + y, 0) + 1
    told = []
    for foot in range(min(wide), max(wide) + 1):
        # Whoever began on one of the size - 1 diagonals ahead has a CELL on this one.
        passing = sum(told[max(0, len(told) - size + 1):])
        # What hangs together leaves out no diagonal between its least and greatest.
        told.append(wide[foot] - passing)
    return [(min(wide) + place, many) for place, many in enumerate(told)]


def count(floor, size, foot):
    """The COUNT of foot, a number: 0 if it is no diagonal of floor."""
    told = {own: many for own, many in _counted(floor, size)}
    return told.get(foot, 0)


def names_of(floor, size):
    """The set of all NAMES (foot, k); CanNot() if some COUNT bars."""
    told = _counted(floor, size)
    if _least_bar(told, size) is not None:
        raise CanNot()
    return tuple([(foot, k) for foot, many in told for k in range(many)])


def count_bar(floor, size):
    """The least foot whose COUNT bars; None if there is none."""
    return _least_bar(_counted(floor, size), size)


def _least_bar(told, size):
    last = told[-1][0]
    for foot, many in told:
        left_over = many != 0 and foot + size - 1 > last
        if many < 0 or left_over:
            return foot
    return None
