"""STAIRS and LAYINGS: what is one, its CELLS, its FLOOR, and its NAMES."""

from stairlaid.cells import fit_cell, fit_floor, is_floor
from stairlaid.errors import NoName, Unfit
from stairlaid.values import fit_size, frozen, is_ascending, is_number, is_pair


def is_stair(thing):
    """Whether thing is a STAIR, of whatever size."""
    return type(thing) is tuple and len(thing) == 2 and is_pair(thing[0]) and _are_steps(thing[1])


def _are_steps(value):
    return type(value) is tuple and all([is_number(step) and step in (0, 1) for step in value])


def fit_stair(stair):
    """stair with tuples in the place of lists; Unfit() if it is no STAIR."""
    own = frozen(stair)
    if not is_stair(own):
        raise Unfit()
    return own


def size_of(stair):
    """The size of a STAIR."""
    return _size(fit_stair(stair))


def _size(stair):
    return len(stair[1]) + 1


def foot_of(stair):
    """The foot of a STAIR: the diagonal of its first CELL."""
    x, y = fit_stair(stair)[0]
    return x + y


def cells_of(stair):
    """The tuple of the CELLS of a STAIR, the first one first."""
    return tuple(_cells(fit_stair(stair)))


def _cells(stair):
    (x, y), steps = stair
    cells = [(x, y)]
    for step in steps:
        x, y = (x, y + 1) if step == 1 else (x + 1, y)
        cells.append((x, y))
    return cells


def stair_of(cells):
    """The STAIR with just these CELLS, in this order; None if there is none."""
    steps = []
    for (x, y), cell in zip(cells, cells[1:]):
        if cell not in ((x + 1, y), (x, y + 1)):
            return None
        steps.append(1 if cell == (x, y + 1) else 0)
    return (cells[0], tuple(steps))


def stairs_in(floor, size):
    """The list, ascending, of all STAIRS of this size that have no CELL but of floor."""
    own = fit_floor(floor)
    if fit_size(size) > len(own):
        return []
    ways = {cell: [()] for cell in own}
    for _ in range(size - 1):
        ways = {cell: _ways_on(ways, cell) for cell in own}
    # The FLOOR ascends, and so do the ways from each CELL.
    return [(cell, steps) for cell in own for steps in ways[cell]]


def _ways_on(ways, cell):
    """The steps from cell, ascending, one more than in ways."""
    x, y = cell
    right = [(0, *steps) for steps in ways.get((x + 1, y), [])]
    return right + [(1, *steps) for steps in ways.get((x, y + 1), [])]


def is_laying(floor, size, thing):
    """Whether thing is a LAYING of floor by size."""
    own = fit_floor(floor)
    fit_size(size)
    return _are_stairs(thing, size) and cells_of_all(thing) == own


def _are_stairs(value, size):
    """Whether value is a set of STAIRS of this size."""
    if type(value) is not tuple or not all([is_stair(item) for item in value]):
        return False
    return is_ascending(value) and all([_size(stair) == size for stair in value])


def cells_of_all(stairs):
    """The CELLS of these STAIRS, one not greater than the next, each as often as they have it."""
    return tuple(sorted([cell for stair in stairs for cell in _cells(stair)]))


def is_some_laying(thing):
    """Whether thing is a LAYING, of whatever FLOOR, by whatever size."""
    if type(thing) is not tuple or len(thing) == 0 or not is_stair(thing[0]):
        return False
    # A CELL that two STAIRS have stands twice there, and makes it no FLOOR.
    return _are_stairs(thing, _size(thing[0])) and is_floor(cells_of_all(thing))


def fit_laying(laying):
    """laying with tuples in the place of lists; Unfit() if it is no LAYING of whatever FLOOR."""
    own = frozen(laying)
    if not is_some_laying(own):
        raise Unfit()
    return own


def floor_of(laying):
    """The FLOOR of a LAYING."""
    return cells_of_all(fit_laying(laying))


def names(laying):
    """The tuple of the pairs (NAME, STAIR), ascending, one for each STAIR of laying."""
    return tuple(_named(fit_laying(laying)))


def _named(laying):
    by_places = sorted([(x + y, x - y, ((x, y), steps)) for (x, y), steps in laying])
    named, many = [], {}
    for foot, _, stair in by_places:
        many[foot] = many.get(foot, 0) + 1
        named.append(((foot, many[foot] - 1), stair))
    return named


def stair_named(laying, name):
    """The STAIR of laying with this NAME; NoName(name) if none has it."""
    stairs = stairs_by_names(laying)
    return stairs[fit_name(stairs, name)]


def stairs_by_names(laying):
    """The STAIRS of laying by their NAMES, ascending."""
    return {name: stair for name, stair in names(laying)}


def fit_name(stairs, name):
    """name with tuples in the place of lists; NoName(name) if it is none of these STAIRS by NAMES."""
    own = frozen(name)
    if not is_pair(own) or own not in stairs:
        raise NoName(own)
    return own


def name_at(laying, cell):
    """The NAME of the STAIR of laying that has this CELL; NoCell(cell) if none has it."""
    called = names_by_cells(laying)
    return called[fit_cell(called, cell)]


def names_by_cells(laying):
    """The NAME of the STAIR that has it, for each CELL of laying."""
    return {cell: name for name, stair in names(laying) for cell in _cells(stair)}


def is_ahead(stair, other):
    """Whether stair is AHEAD of other, two STAIRS of one LAYING, feet at most size apart."""
    apart = foot_of(other) - foot_of(stair)
    if apart < 0:
        return not is_ahead(other, stair)
    # On the first diagonal of the other one; just ahead of it, if none is of both.
    x, y = _cells(stair)[min(apart, _size(stair) - 1)]
    a, b = other[0]
    return x - y < a - b


def order_in(stairs):
    """The list of all pairs of NAMES, the one AHEAD of the other, of a LAYING'S STAIRS by NAMES."""
    called, pairs = list(stairs), []
    for place, name in enumerate(called):
        for other in called[place + 1:]:
            # NAMES ascend by feet.
            if other[0] - name[0] <= _size(stairs[name]):
                pairs.append((name, other) if is_ahead(stairs[name], stairs[other]) else (other, name))
    return pairs
