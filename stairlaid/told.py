"""Told pairs: who is AHEAD of whom in all LAYINGS, and the RINGS that bar them."""

from stairlaid.cells import fit_floor
from stairlaid.counts import names_of
from stairlaid.errors import CanNot
from stairlaid.rims import clear_rim, window
from stairlaid.runs import row_by_runs
from stairlaid.values import frozen, in_row, is_pair, way_between, ways_on


def told_pairs(floor, size):
    """The set of all told pairs; CanNot() if a COUNT or a POINT of the RIM bars."""
    return tuple(sorted(_reasons(floor, size)))


def reason(floor, size, pair):
    """Why pair is told; CanNot() if it is not, or if a COUNT or a POINT of the RIM bars."""
    reasons, asked = _reasons(floor, size), frozen(pair)
    if asked not in reasons:
        raise CanNot()
    return reasons[asked]


def _reasons(floor, size):
    """All told pairs, each with why it is told."""
    own = fit_floor(floor)
    told, numbers = clear_rim(own, size)
    reasons = {((foot, k), (foot, k + 1)): ("foot",) for foot, many in told.items() for k in range(many - 1)}
    # By POINTS ascending, so that the least one is kept.
    for point in sorted(numbers):
        for pair in _pairs_at(window(point, numbers[point]), told):
            reasons.setdefault(pair, ("rim", point))
    for foot in told:
        # A row that is not told tells no pairs.
        row = row_by_runs(own, size, foot, told, numbers) or []
        for name, behind in zip(row, row[1:]):
            if name[0] != behind[0]:
                reasons[(name, behind)] = ("run", foot + size - 1)
    return reasons


def _pairs_at(rows, told):
    """The pairs of NAMES that a POINT of the RIM tells, rows being its feet and their RIM NUMBERS."""
    last_left = [(foot, many - 1) for foot, many in rows if many > 0]
    first_right = [(foot, many) for foot, many in rows if many < told.get(foot, 0)]
    return [(name, other) for name in last_left for other in first_right if name[0] != other[0]]


def told_ring(floor, size):
    """A RING with as few NAMES as can be; None if there is none."""
    ways = ways_on(told_pairs(floor, size))
    around = [way_between(ways, name, name) for name in ways]
    # The NAME at which it begins stands at its end again.
    return min([way[:-1] for way in around if way is not None], key=len, default=None)


def is_ring(floor, size, thing):
    """Whether thing is a RING, of whatever length."""
    pairs = _reasons(floor, size)
    if type(thing) is not tuple or len(thing) == 0 or not all([is_pair(name) for name in thing]):
        return False
    if len(set(thing)) < len(thing):
        return False
    # The first one has the last one ahead.
    return all([(thing[place - 1], name) in pairs for place, name in enumerate(thing)])


def clear_told(floor, size):
    """All NAMES and all told pairs; CanNot() if floor can't be laid by size."""
    pairs, called = told_pairs(floor, size), names_of(floor, size)
    if in_row(called, pairs) is None:
        raise CanNot()
    return called, pairs
