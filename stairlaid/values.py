"""What all files ask of plain values: numbers, pairs, sets, sizes, lists for tuples."""

from stairlaid.errors import Unfit

# No argument is nested deeper, and what is deeper fits nowhere.
LEVELS = 12


def is_number(value):
    """Whether value is an int that is no bool."""
    return type(value) is int


def is_pair(value):
    """Whether value is a pair of numbers: a CELL, a POINT, or what may be a NAME."""
    return type(value) is tuple and len(value) == 2 and is_number(value[0]) and is_number(value[1])


def is_ascending(values):
    """Whether each of these values, which can be compared, is greater than the one ahead."""
    return all([low < high for low, high in zip(values, values[1:])])


def is_pair_set(value):
    """Whether value is a set of pairs of numbers, maybe ()."""
    return type(value) is tuple and all([is_pair(item) for item in value]) and is_ascending(value)


def frozen(value, levels=LEVELS):
    """value with tuples in the place of lists."""
    if levels == 0 or not isinstance(value, (list, tuple)):
        return value
    return tuple([frozen(item, levels - 1) for item in value])


def fit_size(size):
    """size; Unfit() if it is no number from 1."""
    if not is_number(size) or size < 1:
        raise Unfit()
    return size
