"""RIMS: the way round a FLOOR, and its numbers, alike for all LAYINGS."""

from stairlaid.cells import fit_floor
from stairlaid.counts import clear_counts
from stairlaid.errors import CanNot, NoPoint
from stairlaid.values import fit_size, frozen, is_pair


def rim(floor):
    """The RIM, a tuple of POINTS."""
    return tuple(_way_round(fit_floor(floor)))


def _way_round(floor):
    own = set(floor)
    # The RIM comes to no POINT twice, so that there is one way on from each.
    onward = {}
    for x, y in floor:
        if (x, y - 1) not in own:
            onward[(x, y)] = (x + 1, y)
        if (x + 1, y) not in own:
            onward[(x + 1, y)] = (x + 1, y + 1)
        if (x, y + 1) not in own:
            onward[(x + 1, y + 1)] = (x, y + 1)
        if (x - 1, y) not in own:
            onward[(x, y + 1)] = (x, y)
    points = [min(onward)]
    while onward[points[-1]] != points[0]:
        points.append(onward[points[-1]])
    return points


def left_of(floor, point):
    """N of point: how many CELLS floor has on its diagonal at lesser places."""
    return _left(fit_floor(floor), point)


def _left(floor, point):
    x, y = point
    return len([cell for cell in floor if sum(cell) == x + y - 1 and cell[0] - cell[1] < x - y])


def rim_numbers(floor, size, point):
    """The RIM NUMBERS at point; NoPoint(point) if it is not one of the RIM, then CanNot()."""
    own, wanted = fit_floor(floor), frozen(point)
    fit_size(size)
    if not is_pair(wanted) or wanted not in _way_round(own):
        raise NoPoint(wanted)
    clear_counts(own, size)
    return _numbers(own, size)[wanted]


def rim_rows(floor, size):
    """The tuple of the pairs (POINT, RIM NUMBERS) round the RIM; CanNot() if a COUNT bars."""
    own = fit_floor(floor)
    clear_counts(own, size)
    return tuple(_numbers(own, size).items())


def _numbers(floor, size):
    """The RIM NUMBERS by POINTS, as the RIM goes round, no COUNT being left over."""
    points = _way_round(floor)
    diagonals = [x + y for x, y in points]
    start = diagonals.index(min(diagonals))
    way = points[start:] + points[:start]
    told = {way[0]: (0,) * size}
    for last, point in zip(way, way[1:]):
        told[point] = _numbers_on(told[last], sum(point) > sum(last), _left(floor, point))
    return {point: told[point] for point in points}


def _numbers_on(numbers, higher, left):
    """The RIM NUMBERS at the next POINT, a diagonal higher or lower, its N being left."""
    if higher:
        stay = numbers[1:]
        return (*stay, left - sum(stay))
    stay = numbers[:-1]
    return (left - sum(stay), *stay)


def rim_bar(floor, size):
    """The least POINT of the RIM that bars, None if there is none; CanNot() if a COUNT bars."""
    bars = rim_bars(floor, size)
    return bars[0] if bars != [] else None


def rim_bars(floor, size):
    """The list, ascending, of the POINTS of the RIM that bar; CanNot() if a COUNT bars."""
    own = fit_floor(floor)
    return _bars(clear_counts(own, size), _numbers(own, size))


def _bars(told, numbers):
    return [point for point in sorted(numbers)
            if not all([0 <= many <= told.get(foot, 0) for foot, many in window(point, numbers[point])])]


def window(point, numbers):
    """The list of the pairs (foot, RIM NUMBER) of the WINDOW of this POINT, by feet ascending."""
    least = sum(point) - len(numbers)
    return [(least + place, many) for place, many in enumerate(numbers)]


def clear_rim(floor, size):
    """The COUNTS by feet and the RIM NUMBERS by POINTS; CanNot() if one of them bars."""
    told, numbers = clear_counts(floor, size), _numbers(floor, size)
    if _bars(told, numbers) != []:
        raise CanNot()
    return told, numbers
