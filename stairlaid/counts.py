"""COUNTS: how many STAIRS of each foot all LAYINGS of a FLOOR have."""

from stairlaid.cells import fit_floor
from stairlaid.errors import CanNot
from stairlaid.values import fit_size


def counts(floor, size):
    """The tuple of the pairs (foot, COUNT), ascending, of all feet whose COUNT is not 0."""
    told = counted(floor, size)
    return tuple([(foot, many) for foot, many in told.items() if many != 0])


def counted(floor, size):
    """The COUNT of each diagonal of floor, maybe 0 too, by feet ascending."""
    own = fit_floor(floor)
    fit_size(size)
    wide = {}
    for x, y in own:
        wide[x + y] = wide.get(x + y, 0) + 1
    told = []
    for foot in range(min(wide), max(wide) + 1):
        # Whoever began on one of the size - 1 diagonals ahead has a CELL on this one.
        passing = sum(told[max(0, len(told) - size + 1):])
        # What hangs together leaves out no diagonal between its least and greatest.
        told.append(wide[foot] - passing)
    return {min(wide) + place: many for place, many in enumerate(told)}


def count(floor, size, foot):
    """The COUNT of foot, a number: 0 if it is no diagonal of floor."""
    return counted(floor, size).get(foot, 0)


def names_of(floor, size):
    """The set of all NAMES (foot, k); CanNot() if some COUNT bars."""
    told = clear_counts(floor, size)
    return tuple([(foot, k) for foot, many in told.items() for k in range(many)])


def clear_counts(floor, size):
    """The COUNT of each diagonal of floor; CanNot() if some COUNT bars."""
    told = counted(floor, size)
    if count_bars(told, size) != []:
        raise CanNot()
    return told


def count_bar(floor, size):
    """The least foot whose COUNT bars; None if there is none."""
    bars = count_bars(counted(floor, size), size)
    return bars[0] if bars != [] else None


def count_bars(told, size):
    """The list, ascending, of the feet whose COUNT bars, told being all COUNTS by size."""
    last = max(told)
    # Below 0, or left over.
    return [foot for foot, many in told.items() if many < 0 or (many != 0 and foot + size - 1 > last)]
