"""What the tests make and tell by the plainest ways: FLOORS, STAIRS, LAYINGS, COUNTS, who is AHEAD."""

import random
from functools import lru_cache
from itertools import product


def block_of(wide, high):
    return tuple([(x, y) for x in range(wide) for y in range(high)])


def sides(cell):
    x, y = cell
    return [(x - 1, y), (x + 1, y), (x, y - 1), (x, y + 1)]


def hangs_together(cells):
    if not cells:
        return False
    reached = {min(cells)}
    fresh = set(reached)
    while fresh:
        fresh = {near for cell in fresh for near in sides(cell)} & set(cells) - reached
        reached |= fresh
    return reached == set(cells)


def is_floor_plainly(cells):
    """By the words: what is outside is told in a box with a margin of one CELL."""
    if not hangs_together(cells):
        return False
    xs, ys = [x for x, _ in cells], [y for _, y in cells]
    box = product(range(min(xs) - 1, max(xs) + 2), range(min(ys) - 1, max(ys) + 2))
    return hangs_together(set(box) - set(cells))


def moved(cells, by):
    return tuple(sorted([(x + by[0], y + by[1]) for x, y in cells]))


def to_corner(cells):
    return moved(cells, (-min([x for x, _ in cells]), -min([y for _, y in cells])))


@lru_cache(maxsize=None)
def rows_of_cells(many):
    """All that hangs together of so many CELLS, each but shifted once."""
    if many == 1:
        return (((0, 0),),)
    found = set()
    for cells in rows_of_cells(many - 1):
        for near in {near for cell in cells for near in sides(cell)} - set(cells):
            found.add(to_corner((*cells, near)))
    return tuple(sorted(found))


@lru_cache(maxsize=None)
def floors(most):
    """All FLOORS of at most so many CELLS, each but shifted once."""
    return tuple([cells for many in range(1, most + 1) for cells in rows_of_cells(many)
                  if is_floor_plainly(cells)])


def cells_plainly(stair):
    (x, y), steps = stair
    return tuple([(x + i - sum(steps[:i]), y + sum(steps[:i])) for i in range(len(steps) + 1)])


def stairs_plainly(floor, size):
    found = [(cell, steps) for cell in floor for steps in product((0, 1), repeat=size - 1)]
    return sorted([stair for stair in found if set(cells_plainly(stair)) <= set(floor)])


@lru_cache(maxsize=None)
def layings_plainly(floor, size):
    """All LAYINGS: the least CELL is laid in each way, then what is left."""
    if not floor:
        return [()]
    found = []
    for stair in stairs_plainly(floor, size):
        if floor[0] in cells_plainly(stair):
            left = tuple([cell for cell in floor if cell not in cells_plainly(stair)])
            found += [tuple(sorted([stair, *laying])) for laying in layings_plainly(left, size)]
    return sorted(found)


def laid(most, sizes=(1, 2, 3, 4, 5, 6)):
    """All (FLOOR, size, LAYING) of FLOORS of at most so many CELLS."""
    return [(floor, size, laying) for floor in floors(most) for size in sizes
            for laying in layings_plainly(floor, size)]


def counts_plainly(floor, size):
    """The COUNT of each diagonal: it is that of the foot a size ahead, and by how much a
    diagonal has more CELLS than the one ahead of it."""
    wide = [x + y for x, y in floor]
    told = {}
    for foot in range(min(wide), max(wide) + 1):
        told[foot] = told.get(foot - size, 0) + wide.count(foot) - wide.count(foot - 1)
    return told


def place(cell):
    return cell[0] - cell[1]


@lru_cache(maxsize=None)
def wild(many, size, most=6):
    """So many FLOORS by chance, the same at each call: at most so many STAIRS side by side, of which
    then CELLS were moved along their diagonals, so that no COUNT bars, maybe all else."""
    chance = random.Random(size)
    return tuple([_bent(chance, _grown(chance, size, chance.randint(1, most))) for _ in range(many)])


def _grown(chance, size, stairs):
    floor = tuple([(i, 0) for i in range(size)])
    for _ in range(40 * stairs):
        steps = tuple([chance.randint(0, 1) for _ in range(size - 1)])
        x, y = chance.choice(floor)
        larger = {*floor, *cells_plainly(((x + chance.randint(-2, 2), y + chance.randint(-2, 2)), steps))}
        if len(larger) == len(floor) + size <= stairs * size and is_floor_plainly(larger):
            floor = tuple(sorted(larger))
    return floor


def _bent(chance, floor):
    for _ in range(chance.randint(0, 2 * len(floor))):
        (x, y), by = chance.choice(floor), chance.choice((-2, -1, 1, 2))
        bent = {*floor, (x + by, y - by)} - {(x, y)}
        if len(bent) == len(floor) and is_floor_plainly(bent):
            floor = tuple(sorted(bent))
    return floor


def named_plainly(laying):
    """The STAIRS of a LAYING by NAMES."""
    feet = {}
    for cell, steps in sorted(laying, key=lambda stair: place(stair[0])):
        feet.setdefault(sum(cell), []).append((cell, steps))
    return {(foot, k): stair for foot in sorted(feet) for k, stair in enumerate(feet[foot])}


def ahead_plainly(stair, other):
    """Whether stair is AHEAD of other; None if none of both is."""
    size, apart = len(stair[1]) + 1, sum(other[0]) - sum(stair[0])
    if abs(apart) > size or stair == other:
        return None
    cells, others = cells_plainly(stair), cells_plainly(other)
    if abs(apart) == size:
        own, its = (cells[-1], others[0]) if apart > 0 else (cells[0], others[-1])
        return place(own) < place(its)
    told = {place(own) < place(its) for own in cells for its in others if sum(own) == sum(its)}
    assert len(told) == 1, (stair, other)
    return told == {True}


def order_plainly(laying):
    """All pairs of NAMES, the one AHEAD of the other."""
    named = named_plainly(laying)
    return {(name, other) for name in named for other in named if ahead_plainly(named[name], named[other])}


def ways_plainly(pairs):
    """All pairs (first, last) of what a way of one or more pairs leads from and to."""
    ways = set(pairs)
    while True:
        more = {(first, last) for first, middle in ways for again, last in pairs if again == middle} - ways
        if not more:
            return ways
        ways |= more


# What is no FLOOR, no LAYING, no size; CELLS and NAMES that are none of a small FLOOR, and what is no pair of numbers.
NO_FLOORS = (None, True, 0, "", "ab", (), [], ((1, 0), (0, 0)), ((0, 0), (0, 0)), ((0, 0), (1, 1)), ((0, True),),
             ((0, 0), (0, 2)), tuple(sorted({*block_of(3, 3)} - {(1, 1)})), (0, 0))
NO_LAYINGS = (None, True, 0, "", "ab", (), [], (((0, 1), (0,)), ((0, 0), (0,))), (((0, 0), (0,)), ((0, 0), (1,))),
              (((0, 0), ()), ((1, 1), ())), (((0, 0), (0,)), ((0, 1), ())), (((0, 0), (2,)),), (((0, 0), (True,)),),
              (((0, False), (0,)),), block_of(3, 2))
NO_SIZES = (0, -1, None, True, False, "3", 2.0, (3,))
NO_PAIRS = (None, True, 3, "ab", (), (0,), (0, 0, 0), (True, 0), (0, False), (0.0, 0), ("0", "0"), ((0, 0), (0, 0)))


@lru_cache(maxsize=None)
def yards(many, size, most=20):
    """So many FLOORS by chance, the same at each call: blocks that can be laid, put together as they come."""
    chance, found = random.Random(100 + size), []
    sides_of = [(size, high) for high in (1, 2, 3)] + [(wide, size) for wide in (1, 2, 3)]
    while len(found) < many:
        floor = block_of(*chance.choice(sides_of))
        for _ in range(30):
            wide, high = chance.choice(sides_of)
            (x, y), by = chance.choice(floor), (chance.randint(-wide, 1), chance.randint(-high, 1))
            larger = {*floor, *moved(block_of(wide, high), (x + by[0], y + by[1]))}
            if len(larger) == len(floor) + wide * high <= most and is_floor_plainly(larger):
                floor = tuple(sorted(larger))
        found.append(floor)
    return tuple(found)


@lru_cache(maxsize=None)
def families(most, many, sizes=(1, 2, 3, 4, 5, 6)):
    """(FLOOR, size, all LAYINGS, maybe none): all FLOORS of at most so many CELLS, and so many by chance."""
    asked = [(floor, size) for floor in floors(most) for size in sizes]
    asked += [(floor, size) for size in sizes if size > 1 for floor in (*wild(many, size, 4), *yards(many, size))]
    return tuple([(floor, size, tuple(layings_plainly(floor, size))) for floor, size in asked])


def laid_ones(most, many, sizes=(1, 2, 3, 4, 5, 6), least=1):
    """Of these families those with so many LAYINGS or more."""
    return [row for row in families(most, many, sizes) if len(row[2]) >= least]


def patched(*patches):
    """The CELLS of blocks (x, y, wide, high)."""
    return tuple(sorted([cell for x, y, wide, high in patches for cell in moved(block_of(wide, high), (x, y))]))


def strip_of(steps):
    """The LAYING by size 1 of the CELLS to which the steps lead from (0, 0)."""
    return tuple([(cell, ()) for cell in cells_plainly(((0, 0), steps))])


# FLOORS at the edges: with just 400 LAYINGS, with 401; with 12 free pairs and more than 400; with 13 free pairs.
JUST_400, JUST_401 = patched((0, 0, 3, 5), (3, 3, 4, 3)), patched((-4, 0, 4, 2), (0, -4, 2, 8), (2, -4, 1, 4))
TWELVE_FREE, THIRTEEN_FREE = patched((0, 0, 4, 4), (4, -3, 4, 4)), JUST_400
# LAYINGS by size 1 with just 400 TAKES, and with 401.
TAKES_400 = strip_of((0, 0, 1, 1, 0, 0, 1, 0, 1, 1, 0, 1))
TAKES_401 = strip_of((0, 0, 1, 0, 1, 0, 1, 1, 0, 1, 0, 0))
# FLOORS by sizes with a BAR of each kind.
BARRED = ((((0, 0), (0, 1), (1, 0)), 3), (((0, 1), (0, 2), (1, 1), (2, 1), (3, 0), (3, 1)), 3),
          (((0, 1), (1, 1), (2, 0), (2, 1), (2, 2), (3, 0)), 3))
