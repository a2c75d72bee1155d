"""TAKES: NAMES taken off a LAYING together with all that are AHEAD of them, and what they leave."""

from stairlaid.cells import fit_cell, is_floor
from stairlaid.errors import CanNot, TooMany, Unfit
from stairlaid.layings import cells_of_all, names_by_cells, order_in, stairs_by_names
from stairlaid.values import MOST, frozen, in_row, is_pair_set, reached, ways_on


def is_take(laying, thing):
    """Whether thing is a TAKE of laying."""
    return _is_take(stairs_by_names(laying), thing)


def _is_take(stairs, thing):
    if not is_pair_set(thing) or not all([name in stairs for name in thing]):
        return False
    own = set(thing)
    return all([name in own for name, other in order_in(stairs) if other in own])


def taken_and_left(laying, names):
    """The STAIRS of a TAKE, and those that it leaves, two sets; Unfit() if names is no TAKE of laying."""
    stairs, own = stairs_by_names(laying), frozen(names)
    if not _is_take(stairs, own):
        raise Unfit()
    gone = [stairs[name] for name in own]
    left = [stair for name, stair in stairs.items() if name not in own]
    return tuple(sorted(gone)), tuple(sorted(left))


def taken(laying, names):
    """The set of the STAIRS that are left when names is taken off; Unfit() if it is no TAKE."""
    _, left = taken_and_left(laying, names)
    return left


def left_floor(laying, names):
    """The FLOOR that names leaves; Unfit() if it is no TAKE, then CanNot() if it leaves none."""
    cells = cells_of_all(taken(laying, names))
    if not is_floor(cells):
        raise CanNot()
    return cells


def takes(laying):
    """The list, ascending, of all TAKES that leave a FLOOR; TooMany() if there are more than 400 TAKES."""
    return [own for own in all_takes(laying) if is_floor(cells_of_all(taken(laying, own)))]


def all_takes(laying):
    """The list, ascending, of all TAKES of laying; TooMany() if there are more than 400."""
    stairs = stairs_by_names(laying)
    order = order_in(stairs)
    needs, found = ways_on([(other, name) for name, other in order]), [()]
    # As nobody is told later than one that it is AHEAD of, what is found is a TAKE already.
    for name in in_row(stairs, order):
        found = found + [(*own, name) for own in found if all([other in own for other in needs.get(name, [])])]
        if len(found) > MOST:
            raise TooMany()
    return sorted([tuple(sorted(own)) for own in found])


def first_take(laying, cell):
    """The TAKE of the fewest NAMES that has the NAME of the STAIR with cell; NoCell(cell) if none has it."""
    called = names_by_cells(laying)
    name = called[fit_cell(called, cell)]
    needs = ways_on([(other, own) for own, other in order_in(stairs_by_names(laying))])
    return tuple(sorted([name, *reached(needs, name)]))
