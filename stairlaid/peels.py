"""Peelings: STAIRS taken off one by one, each with nobody left AHEAD of it."""

from stairlaid.cells import fit_floor
from stairlaid.errors import Broken, CanNot, TooMany, Unfit
from stairlaid.layings import order_in, stair_of, stairs_by_names
from stairlaid.values import MOST, fit_size, in_row


def first_ones(laying):
    """The set of the NAMES that have nobody AHEAD."""
    stairs = stairs_by_names(laying)
    behind = [other for _, other in order_in(stairs)]
    return tuple([name for name in stairs if name not in behind])


def rows(laying):
    """The list, ascending, of the ROWS of laying; TooMany() if they are more than 400."""
    stairs = stairs_by_names(laying)
    ahead = {name: [] for name in stairs}
    for name, other in order_in(stairs):
        ahead[other].append(name)
    begun = [()]
    for _ in stairs:
        begun = [(*row, name) for row in begun for name in _next_ones(row, ahead)]
        # Each can be told on to its end, so that they never get fewer.
        if len(begun) > MOST:
            raise TooMany()
    return [_feet(row) for row in begun]


def _next_ones(row, ahead):
    """The NAMES, ascending, of which all that are AHEAD stand in the row, they themselves not."""
    taken = set(row)
    return [name for name, others in ahead.items()
            if name not in taken and all([other in taken for other in others])]


def _feet(row):
    return tuple([foot for foot, _ in row])


def least_row(laying):
    """The least of the ROWS of laying, however many they are."""
    stairs = stairs_by_names(laying)
    # AHEAD has no ring in a LAYING, and the least NAME at each place has the least foot.
    return _feet(in_row(stairs, order_in(stairs)))


def first_cells(floor, size, foot):
    """The tuple of the first CELLS of diagonals foot to foot + size - 1; CanNot() if one has none."""
    left = _by_diagonals(fit_floor(floor))
    cells = _first_cells(left, fit_size(size), foot)
    if cells is None:
        raise CanNot()
    return tuple(cells)


def _by_diagonals(floor):
    """The lists of the CELLS on each diagonal, by places."""
    left = {}
    for x, y in floor:
        # On one diagonal CELLS ascend as their places do.
        left.setdefault(x + y, []).append((x, y))
    return left


def _first_cells(left, size, foot):
    cells = []
    for number in range(foot, foot + size):
        if left.get(number, []) == []:
            return None
        cells.append(left[number][0])
    return cells


def laid_by(floor, size, row):
    """The LAYING that has row among its ROWS.

    Broken(place) for the first place in row at which that can't be; Unfit() if CELLS are left.
    """
    left, stairs = _by_diagonals(fit_floor(floor)), []
    fit_size(size)
    for place, foot in enumerate(row):
        stair = _first_stair(left, size, foot)
        if stair is None:
            raise Broken(place)
        for number in range(foot, foot + size):
            left[number] = left[number][1:]
        stairs.append(stair)
    if any([cells != [] for cells in left.values()]):
        raise Unfit()
    return tuple(sorted(stairs))


def _first_stair(left, size, foot):
    """The STAIR of the first CELLS that are left, with nobody left AHEAD of it; None if there is none."""
    cells = _first_cells(left, size, foot)
    if cells is None:
        return None
    if _lies_ahead(left, foot + size, cells[-1]) or _lies_ahead(left, foot - 1, cells[0]):
        return None
    return stair_of(cells)


def _lies_ahead(left, number, cell):
    """Whether a CELL that is left on diagonal number is at a lesser place than this one."""
    return any([x - y < cell[0] - cell[1] for x, y in left.get(number, [])])


def rows_alike(size, row, other):
    """Whether other comes of row by exchanges of two neighbours, feet more than size apart."""
    fit_size(size)
    left = list(other)
    for foot in row:
        place = left.index(foot) if foot in left else len(left)
        # It has to get to the front, past all that stand ahead of it.
        if place == len(left) or any([abs(foot - ahead) <= size for ahead in left[:place]]):
            return False
        del left[place]
    return left == []
