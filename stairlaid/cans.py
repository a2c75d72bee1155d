"""What can be laid: a LAYING, or the BAR that tells why there is none."""

from stairlaid.counts import count_bar, count_bars, counted
from stairlaid.errors import CanNot
from stairlaid.peels import laid_by
from stairlaid.rims import rim_bar, rim_bars
from stairlaid.told import clear_told, is_ring, told_ring
from stairlaid.values import in_row, is_number, is_pair


def can_lay(floor, size):
    """Whether floor has a LAYING of this size."""
    return _first_bar(floor, size) is None


def _first_bar(floor, size):
    """A BAR, the first one by kind; None if there is none."""
    foot = count_bar(floor, size)
    if foot is not None:
        return ("count", foot)
    point = rim_bar(floor, size)
    if point is not None:
        return ("rim", point)
    ring = told_ring(floor, size)
    return ("ring", ring) if ring is not None else None


def lay(floor, size):
    """A LAYING of floor by size; CanNot() if there is none."""
    called, told = clear_told(floor, size)
    # Each row of all NAMES with the told pairs as told is a ROW of some LAYING.
    return laid_by(floor, size, [foot for foot, _ in in_row(called, told)])


def bar(floor, size):
    """A BAR: the least foot that bars, else the least POINT, else a RING; CanNot() if there is none."""
    found = _first_bar(floor, size)
    if found is None:
        raise CanNot()
    return found


def is_bar(floor, size, thing):
    """Whether thing is a BAR of floor by size."""
    found = _first_bar(floor, size)
    # What bars is of one kind: the next one is told only if the ones ahead do not bar.
    if found is None or type(thing) is not tuple or len(thing) != 2 or thing[0] != found[0]:
        return False
    kind, what = thing
    if kind == "count":
        return is_number(what) and what in count_bars(counted(floor, size), size)
    if kind == "rim":
        return is_pair(what) and what in rim_bars(floor, size)
    return is_ring(floor, size, what)
