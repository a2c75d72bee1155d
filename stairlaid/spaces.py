"""Shifts, mirrors and half turns of FLOORS, STAIRS and LAYINGS."""

from stairlaid.cells import fit_floor
from stairlaid.layings import cells_of, fit_laying, fit_stair


def shifted(floor, by):
    """The FLOOR with (a, b), told by the pair by, added to each CELL."""
    own = fit_floor(floor)
    a, b = by
    return tuple([(x + a, y + b) for x, y in own])


def mirrored(floor):
    """The FLOOR with (y, x) for each CELL (x, y)."""
    return tuple(sorted([(y, x) for x, y in fit_floor(floor)]))


def half_turned(floor):
    """The FLOOR with (-x, -y) for each CELL (x, y)."""
    return tuple(sorted([(-x, -y) for x, y in fit_floor(floor)]))


def stair_shifted(stair, by):
    """The STAIR that comes as the CELLS of stair are shifted."""
    (x, y), steps = fit_stair(stair)
    a, b = by
    return ((x + a, y + b), steps)


def stair_mirrored(stair):
    """The STAIR that comes as the CELLS of stair are mirrored."""
    (x, y), steps = fit_stair(stair)
    return ((y, x), tuple([1 - step for step in steps]))


def stair_half_turned(stair):
    """The STAIR that comes as the CELLS of stair are half turned."""
    # The last CELL is the first one then, and the way is gone backwards and turned: as it was.
    x, y = cells_of(stair)[-1]
    return ((-x, -y), fit_stair(stair)[1][::-1])


def laying_shifted(laying, by):
    """The LAYING of the STAIRS of laying, shifted."""
    return tuple([stair_shifted(stair, by) for stair in fit_laying(laying)])


def laying_mirrored(laying):
    """The LAYING of the STAIRS of laying, mirrored."""
    return tuple(sorted([stair_mirrored(stair) for stair in fit_laying(laying)]))


def laying_half_turned(laying):
    """The LAYING of the STAIRS of laying, half turned."""
    return tuple(sorted([stair_half_turned(stair) for stair in fit_laying(laying)]))


def alike(floor, other):
    """Whether other is floor shifted, maybe mirrored, half turned or both ahead of that."""
    own, wanted = fit_floor(floor), fit_floor(other)
    forms = [own, mirrored(own), half_turned(own), half_turned(mirrored(own))]
    return _from_least(wanted) in [_from_least(form) for form in forms]


def _from_least(floor):
    """The FLOOR shifted so that its least CELL is (0, 0)."""
    x, y = floor[0]
    return shifted(floor, (-x, -y))
