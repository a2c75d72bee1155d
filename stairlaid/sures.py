"""What all LAYINGS of a FLOOR have: STAIRS, NAMES, CELLS, and how far each NAME gets about."""

from stairlaid.alls import all_layings
from stairlaid.cells import fit_cell, fit_floor
from stairlaid.counts import count
from stairlaid.errors import CanNot, NoName
from stairlaid.layings import cells_of, names_by_cells, stairs_by_names
from stairlaid.values import fit_size, frozen, is_pair


def _layings(floor, size):
    """All LAYINGS of floor; CanNot() if there is none, TooMany() if there are more than 400."""
    found = all_layings(floor, size)
    if found == []:
        raise CanNot()
    return found


def sure_stairs(floor, size):
    """The set of the STAIRS that all LAYINGS of floor have."""
    found = _layings(floor, size)
    return tuple([stair for stair in found[0] if all([stair in laying for laying in found])])


def sure_names(floor, size):
    """The set of the NAMES that have one and the same STAIR in all LAYINGS of floor."""
    return tuple(_alike([stairs_by_names(laying) for laying in _layings(floor, size)]))


def _alike(tables):
    """The list of the keys, in order, for which these dicts of the same keys tell the same."""
    return [key for key, worth in tables[0].items() if all([table[key] == worth for table in tables])]


def sure_name(floor, size, cell):
    """The NAME whose STAIR has cell in all LAYINGS, be it the same STAIR or not; None if there is none."""
    own = fit_floor(floor)
    fit_size(size)
    wanted = fit_cell(own, cell)
    called = [names_by_cells(laying)[wanted] for laying in _layings(own, size)]
    return called[0] if all([name == called[0] for name in called]) else None


def loose_cells(floor, size):
    """The set of the CELLS of floor that do not have a STAIR of one NAME in all LAYINGS."""
    tables = [names_by_cells(laying) for laying in _layings(floor, size)]
    sure = _alike(tables)
    return tuple(sorted([cell for cell in tables[0] if cell not in sure]))


def places(floor, size, name):
    """For each diagonal of name's STAIR the pair of the CELLS at the least and at the greatest place."""
    own, called = fit_floor(floor), frozen(name)
    fit_size(size)
    # Whatever bars, a COUNT tells its NAMES.
    if not is_pair(called) or called[1] not in range(count(own, size, called[0])):
        raise NoName(called)
    rows = [cells_of(stairs_by_names(laying)[called]) for laying in _layings(own, size)]
    # On one diagonal CELLS ascend as their places do.
    return tuple([(min(cells), max(cells)) for cells in zip(*rows)])
