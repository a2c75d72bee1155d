"""What all files ask of plain values: numbers, pairs, sets, sizes, lists for tuples."""

from stairlaid.errors import Unfit

# No argument is nested deeper, and what is deeper fits nowhere.
LEVELS = 12

# More ROWS or LAYINGS than these are not gone through.
MOST = 400


def is_number(value):
    """Whether value is an int that is no bool."""
    return type(value) is int


def is_pair(value):
    """Whether value is a pair of numbers: a CELL, a POINT, or what may be a NAME."""
    return type(value) is tuple and len(value) == 2 and is_number(value[0]) and is_number(value[1])


def is_ascending(values):
    """Whether each of these values, which can be compared, is greater than the one ahead."""
    return all([low < high for low, high in zip(values, values[1:])])


def is_pair_set(value):
    """Whether value is a set of pairs of numbers, maybe ()."""
    return type(value) is tuple and all([is_pair(item) for item in value]) and is_ascending(value)


def are_two_pairs(value):
    """Whether value is a pair of pairs of numbers: what may be two NAMES."""
    return type(value) is tuple and len(value) == 2 and is_pair(value[0]) and is_pair(value[1])


def frozen(value, levels=LEVELS):
    """value with tuples in the place of lists."""
    if levels == 0 or not isinstance(value, (list, tuple)):
        return value
    return tuple([frozen(item, levels - 1) for item in value])


def fit_size(size):
    """size; Unfit() if it is no number from 1."""
    if not is_number(size) or size < 1:
        raise Unfit()
    return size


def ways_on(pairs):
    """For each first one of the pairs the list of the second ones, in order."""
    ways = {}
    for first, second in pairs:
        ways.setdefault(first, []).append(second)
    return ways


def reached(ways, start):
    """All to which ways of one or more pairs lead from start, by the least pairs first.

    A dict: each of them with the one ahead of it on such a way.
    """
    ahead, fresh = {}, [start]
    while fresh:
        new = []
        for first in fresh:
            for second in ways.get(first, []):
                if second not in ahead:
                    ahead[second] = first
                    new.append(second)
        fresh = new
    return ahead


def way_between(ways, start, last):
    """The row of the fewest by which ways of one or more pairs lead from start to last; None if none does."""
    ahead = reached(ways, start)
    if last not in ahead:
        return None
    # Told from its end, until it comes to the start.
    row = [last, ahead[last]]
    while row[-1] != start:
        row.append(ahead[row[-1]])
    return tuple(row[::-1])


def in_row(items, pairs):
    """The least row of the items with the first one of each pair ahead; None if a ring bars it."""
    ways, row = ways_on(pairs), []
    waits = {item: 0 for item in items}
    for _, second in pairs:
        waits[second] += 1
    while len(row) < len(waits):
        free = [item for item, many in waits.items() if many == 0]
        if free == []:
            return None
        least = min(free)
        row.append(least)
        # Taken: it never waits for none again.
        waits[least] = -1
        for second in ways.get(least, []):
            waits[second] -= 1
    return row
