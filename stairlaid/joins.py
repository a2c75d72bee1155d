"""Joins: two FLOORS or LAYINGS put together, and CUTS that part a LAYING in two."""

from stairlaid.cells import fit_floor, is_floor
from stairlaid.errors import Unfit
from stairlaid.layings import cells_of_all, fit_laying, floor_of, size_of
from stairlaid.takes import all_takes, is_take, taken_and_left


def can_join(floor, other):
    """Whether the FLOORS have no common CELL, and all their CELLS together are a FLOOR."""
    return is_floor(_together(floor, other))


def _together(floor, other):
    # A CELL that both have stands twice there, and makes it no FLOOR.
    return tuple(sorted([*fit_floor(floor), *fit_floor(other)]))


def joined(floor, other):
    """The FLOOR of both; Unfit() if they can not be joined."""
    return fit_floor(_together(floor, other))


def laid_together(laying, other):
    """The LAYING of the STAIRS of both; Unfit() if their sizes are unlike, or their FLOORS can not be joined."""
    own, its = fit_laying(laying), fit_laying(other)
    if size_of(own[0]) != size_of(its[0]) or not can_join(floor_of(own), floor_of(its)):
        raise Unfit()
    return tuple(sorted([*own, *its]))


def cuts(laying):
    """The list, ascending, of the CUTS of laying; TooMany() if it has more than 400 TAKES."""
    return [own for own in all_takes(laying) if _parts(laying, own) is not None]


def _parts(laying, names):
    """The pair of what this TAKE takes and what it leaves; None if it is no CUT."""
    parts = taken_and_left(laying, names)
    # Of no STAIRS there is no FLOOR, so that neither has all of them.
    return parts if all([is_floor(cells_of_all(part)) for part in parts]) else None


def is_cut(laying, thing):
    """Whether thing is a CUT of laying."""
    return is_take(laying, thing) and _parts(laying, thing) is not None


def parted(laying, names):
    """The pair of the LAYINGS of what is taken and of what is left; Unfit() if names is no CUT."""
    parts = _parts(laying, names)
    if parts is None:
        raise Unfit()
    return parts
