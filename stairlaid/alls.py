"""All LAYINGS of a FLOOR: each of them, by number, and how many they are."""

from stairlaid.cans import lay
from stairlaid.errors import CanNot, TooMany, Unfit
from stairlaid.layings import fit_laying, floor_of, size_of
from stairlaid.orders import free_pairs
from stairlaid.peels import least_row
from stairlaid.told import told_pairs
from stairlaid.turns import next_layings
from stairlaid.values import MOST, is_number, reached, ways_on

# With more free pairs than these ORDERS are not counted.
MOST_FREE = 12


def all_layings(floor, size):
    """The list, ascending, of all LAYINGS of floor by size; TooMany() if there are more than 400."""
    try:
        fresh = [lay(floor, size)]
    except CanNot:
        return []
    # TURNS lead from one LAYING to all others.
    found = {fresh[0]: True}
    while fresh != []:
        own = fresh.pop()
        for laying in next_layings(own):
            if laying not in found:
                found[laying] = True
                fresh.append(laying)
        if len(found) > MOST:
            raise TooMany()
    return sorted(found)


def many(floor, size):
    """How many LAYINGS floor has, counted by ORDERS; TooMany() if more than 12 pairs are free."""
    try:
        free = free_pairs(floor, size)
    except CanNot:
        return 0
    if len(free) > MOST_FREE:
        raise TooMany()
    ways = ways_on(told_pairs(floor, size))
    # Between all others it is told in all ORDERS who is AHEAD.
    return _orders({name: reached(ways, name) for pair in free for name in pair}, free)


def _orders(behind, free):
    """How many ORDERS there are, with all that is told behind each NAME, and pairs that are asked for still."""
    if len(free) == 0:
        return 1
    (name, other), left = free[0], free[1:]
    # What was told of the pairs ahead may tell this one, too.
    if other in behind[name] or name in behind[other]:
        return _orders(behind, left)
    return _orders(_told_on(behind, name, other), left) + _orders(_told_on(behind, other, name), left)


def _told_on(behind, name, other):
    """What is told behind each NAME, name being told ahead of other, too."""
    more = {**behind[other], other: True}
    return {own: {**its, **more} if own == name or name in its else its for own, its in behind.items()}


def many_by_rows(floor, size):
    """How many LAYINGS floor has, counted by the least of the ROWS that come from one another by exchanges.

    TooMany() if there are more than 400.
    """
    return len({least_row(laying) for laying in all_layings(floor, size)})


def place_of(laying):
    """The number of laying in all_layings of its FLOOR and its size; TooMany() as there."""
    own = fit_laying(laying)
    return all_layings(floor_of(own), size_of(own[0])).index(own)


def laying_at(floor, size, number):
    """The LAYING with this number in all_layings; TooMany() as there, then Unfit() if there is none."""
    found = all_layings(floor, size)
    if not is_number(number) or number not in range(len(found)):
        raise Unfit()
    return found[number]
