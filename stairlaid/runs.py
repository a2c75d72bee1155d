"""RUNS: where on two neighbouring diagonals STAIRS end and begin, in all LAYINGS."""

from stairlaid.cells import fit_floor
from stairlaid.errors import CanNot
from stairlaid.rims import clear_rim


def runs(floor, number):
    """The list, by places, of the RUNS of diagonal number, each a tuple of CELLS."""
    return [tuple(run) for run in _runs(fit_floor(floor), number)]


def _runs(floor, number):
    found, last = [], None
    for place, cell in sorted([(x - y, (x, y)) for x, y in floor if x + y in (number, number + 1)]):
        if last != place - 1:
            found.append([])
        found[-1].append(cell)
        last = place
    return found


def run_numbers(floor, size, number):
    """The list with the pair (how many end, how many begin) for each RUN of diagonal number.

    CanNot() if a COUNT or a POINT of the RIM bars.
    """
    own = fit_floor(floor)
    _, numbers = clear_rim(own, size)
    return [_growth(numbers, run, number) for run in _runs(own, number)]


def _growth(numbers, run, number):
    """How much the RIM NUMBERS of those that end and of those that begin grow along the RUN."""
    low_left, high_left = _points_ahead(run[0], number)
    low_right, high_right = _points_behind(run[-1], number)
    # Who ends on this diagonal has the first foot of its WINDOW, who begins on the next the last.
    return (numbers[low_right][0] - numbers[low_left][0], numbers[high_right][-1] - numbers[high_left][-1])


def _points_ahead(cell, number):
    """The POINTS on diagonals number and number + 1 ahead of the first CELL of a RUN."""
    x, y = cell
    return ((x, y + 1), (x + 1, y + 1)) if x + y == number else ((x, y), (x, y + 1))


def _points_behind(cell, number):
    """The POINTS on diagonals number and number + 1 behind the last CELL of a RUN."""
    x, y = cell
    return ((x + 1, y), (x + 1, y + 1)) if x + y == number else ((x, y), (x + 1, y))


def told_row(floor, size, foot):
    """The tuple of the NAMES of foot and foot + size, as the RUNS between them tell.

    CanNot() if a COUNT or a POINT of the RIM bars, then if this row is not told.
    """
    own = fit_floor(floor)
    told, numbers = clear_rim(own, size)
    row = row_by_runs(own, size, foot, told, numbers)
    if row is None:
        raise CanNot()
    return tuple(row)


def row_by_runs(floor, size, foot, told, numbers):
    """The row of NAMES of foot and foot + size, a list; None if it is not told.

    Of this FLOOR by this size told are the COUNTS, numbers the RIM NUMBERS; none bars.
    """
    last, many, row = foot + size - 1, {foot: 0, foot + size: 0}, []
    for run in _runs(floor, last):
        ends, begins = _growth(numbers, run, last)
        if ends < 0 or begins < 0:
            return None
        kind, other = (foot, foot + size) if sum(run[0]) == last else (foot + size, foot)
        # Both are as many, or the kind of the first CELL has one more: they can stand by turns.
        for _ in range(ends + begins):
            row.append((kind, many[kind]))
            many[kind] += 1
            kind, other = other, kind
    if [many[foot], many[foot + size]] != [told.get(foot, 0), told.get(foot + size, 0)]:
        return None
    return row
