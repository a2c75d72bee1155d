"""CELLS and FLOORS: what is a FLOOR, its diagonals, and how it grows and shrinks."""

from stairlaid.errors import NoCell, Unfit
from stairlaid.values import frozen, is_pair, is_pair_set


def is_floor(thing):
    """Whether thing is a FLOOR, with however many CELLS, with whatever numbers."""
    if not is_pair_set(thing) or len(thing) == 0:
        return False
    # It is enough to ask the CELLS outside that touch the FLOOR: each other one
    # hangs together with one of these, straight on to the FLOOR, and around CELLS
    # that hang together these fall apart only if all that is outside does.
    return _hang_together(thing) and _hang_together(_collar(thing))


def _hang_together(cells):
    left = set(cells)
    left.discard(cells[0])
    reached = [cells[0]]
    while reached:
        x, y = reached.pop()
        for beside in ((x - 1, y), (x + 1, y), (x, y - 1), (x, y + 1)):
            if beside in left:
                left.discard(beside)
                reached.append(beside)
    return len(left) == 0


def _collar(cells):
    """The CELLS, not of these, that touch one of these by a side or a corner."""
    own = set(cells)
    around = {}
    for x, y in cells:
        for near in (x - 1, x, x + 1):
            for level in (y - 1, y, y + 1):
                if (near, level) not in own:
                    around[(near, level)] = True
    return list(around)


def fit_floor(floor):
    """floor with tuples in the place of lists; Unfit() if it is no FLOOR."""
    own = frozen(floor)
    if not is_floor(own):
        raise Unfit()
    return own


def fit_cell(cells, cell):
    """cell with tuples in the place of lists; NoCell(cell) if it is none of these CELLS."""
    own = frozen(cell)
    if not is_pair(own) or own not in cells:
        raise NoCell(own)
    return own


def diagonal(floor, number):
    """The tuple of the CELLS of floor on this diagonal, by places ascending."""
    # On one diagonal CELLS ascend as their places do, so the FLOOR's order serves.
    return tuple([(x, y) for x, y in fit_floor(floor) if x + y == number])


def span(floor):
    """The pair of the least and the greatest diagonal that has a CELL of floor."""
    numbers = [x + y for x, y in fit_floor(floor)]
    return (min(numbers), max(numbers))


def can_grow(floor, cell):
    """Whether cell is none of floor, and floor with it is a FLOOR."""
    return _larger(fit_floor(floor), frozen(cell)) is not None


def grown(floor, cell):
    """The FLOOR with cell; Unfit() if it can't grow by it."""
    larger = _larger(fit_floor(floor), frozen(cell))
    if larger is None:
        raise Unfit()
    return larger


def _larger(floor, cell):
    if not is_pair(cell) or cell in floor:
        return None
    cells = tuple(sorted([*floor, cell]))
    return cells if is_floor(cells) else None


def shrunk(floor, cell):
    """The FLOOR without cell; NoCell(cell) if it has none such, Unfit() if that is no FLOOR."""
    own = fit_floor(floor)
    gone = fit_cell(own, cell)
    return fit_floor([left for left in own if left != gone])


def borders(floor):
    """The set of the CELLS by which floor can grow."""
    own = fit_floor(floor)
    return tuple(sorted([cell for cell in _collar(own) if _larger(own, cell) is not None]))
