"""ORDERS: who is AHEAD of whom in a LAYING, and the LAYING that an ORDER tells."""

from stairlaid.errors import Unfit
from stairlaid.layings import fit_name, is_ahead, order_in, size_of, stairs_by_names
from stairlaid.peels import laid_by
from stairlaid.told import clear_told
from stairlaid.values import are_two_pairs, frozen, in_row, is_ascending, reached, ways_on


def ahead(laying, name, other):
    """1 if name is AHEAD of other, -1 if other is AHEAD of name, 0 if none of both is."""
    stairs = stairs_by_names(laying)
    own, its = fit_name(stairs, name), fit_name(stairs, other)
    if own == its or abs(own[0] - its[0]) > size_of(stairs[own]):
        return 0
    return 1 if is_ahead(stairs[own], stairs[its]) else -1


def order_of(laying):
    """The ORDER of laying: the set of the pairs of NAMES, the one AHEAD of the other."""
    return tuple(sorted(order_in(stairs_by_names(laying))))


def is_order(floor, size, thing):
    """Whether thing is an ORDER; CanNot() if floor can't be laid by size."""
    called, told = clear_told(floor, size)
    return _fits(size, called, told, thing)


def _fits(size, called, told, thing):
    """Whether thing is an ORDER of what has these NAMES and told pairs."""
    if type(thing) is not tuple or not all([are_two_pairs(pair) for pair in thing]) or not is_ascending(thing):
        return False
    asked = [(name, other) for name in called for other in called
             if name < other and other[0] - name[0] <= size]
    # Each of them once, the one way or the other.
    if sorted([(min(pair), max(pair)) for pair in thing]) != asked:
        return False
    pairs = set(thing)
    return all([pair in pairs for pair in told]) and in_row(called, thing) is not None


def laying_of(floor, size, order):
    """The LAYING with this ORDER; CanNot() if floor can't be laid, Unfit() if order is none."""
    called, told = clear_told(floor, size)
    own = frozen(order)
    if not _fits(size, called, told, own):
        raise Unfit()
    # A row of NAMES that stand as in the ORDER is a ROW of its LAYING.
    return laid_by(floor, size, [foot for foot, _ in in_row(called, own)])


def free_pairs(floor, size):
    """The set of the pairs of NAMES, feet unlike and less than size apart, that no told pairs tie."""
    called, told = clear_told(floor, size)
    ways = ways_on(told)
    behind = {name: reached(ways, name) for name in called}
    return tuple([(name, other) for name in called for other in called if 0 < other[0] - name[0] < size
                  and other not in behind[name] and name not in behind[other]])
