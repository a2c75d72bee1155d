"""What the tests make and tell by the plainest ways: FLOORS, STAIRS, LAYINGS, COUNTS."""

from functools import lru_cache
from itertools import product


def block_of(wide, high):
    return tuple([(x, y) for x in range(wide) for y in range(high)])


def sides(cell):
    x, y = cell
    return [(x - 1, y), (x + 1, y), (x, y - 1), (x, y + 1)]


def hangs_together(cells):
    if not cells:
        return False
    reached = {min(cells)}
    fresh = set(reached)
    while fresh:
        fresh = {near for cell in fresh for near in sides(cell)} & set(cells) - reached
        reached |= fresh
    return reached == set(cells)


def is_floor_plainly(cells):
    """By the words: what is outside is told in a box with a margin of one CELL."""
    if not hangs_together(cells):
        return False
    xs, ys = [x for x, _ in cells], [y for _, y in cells]
    box = product(range(min(xs) - 1, max(xs) + 2), range(min(ys) - 1, max(ys) + 2))
    return hangs_together(set(box) - set(cells))


def moved(cells, by):
    return tuple(sorted([(x + by[0], y + by[1]) for x, y in cells]))


def to_corner(cells):
    return moved(cells, (-min([x for x, _ in cells]), -min([y for _, y in cells])))


@lru_cache(maxsize=None)
def rows_of_cells(many):
    """All that hangs together of so many CELLS, each but shifted once."""
    if many == 1:
        return (((0, 0),),)
    found = set()
    for cells in rows_of_cells(many - 1):
        for near in {near for cell in cells for near in sides(cell)} - set(cells):
            found.add(to_corner((*cells, near)))
    return tuple(sorted(found))


@lru_cache(maxsize=None)
def floors(most):
    """All FLOORS of at most so many CELLS, each but shifted once."""
    return tuple([cells for many in range(1, most + 1) for cells in rows_of_cells(many)
                  if is_floor_plainly(cells)])


def cells_plainly(stair):
    (x, y), steps = stair
    return tuple([(x + i - sum(steps[:i]), y + sum(steps[:i])) for i in range(len(steps) + 1)])


def stairs_plainly(floor, size):
    found = [(cell, steps) for cell in floor for steps in product((0, 1), repeat=size - 1)]
    return sorted([stair for stair in found if set(cells_plainly(stair)) <= set(floor)])


@lru_cache(maxsize=None)
def layings_plainly(floor, size):
    """All LAYINGS: the least CELL is laid in each way, then what is left."""
    if not floor:
        return [()]
    found = []
    for stair in stairs_plainly(floor, size):
        if floor[0] in cells_plainly(stair):
            left = tuple([cell for cell in floor if cell not in cells_plainly(stair)])
            found += [tuple(sorted([stair, *laying])) for laying in layings_plainly(left, size)]
    return sorted(found)


def laid(most, sizes=(1, 2, 3, 4, 5, 6)):
    """All (FLOOR, size, LAYING) of FLOORS of at most so many CELLS."""
    return [(floor, size, laying) for floor in floors(most) for size in sizes
            for laying in layings_plainly(floor, size)]


def counts_plainly(floor, size):
    """The COUNT of each diagonal: it is that of the foot a size ahead, and by how much a
    diagonal has more CELLS than the one ahead of it."""
    wide = [x + y for x, y in floor]
    told = {}
    for foot in range(min(wide), max(wide) + 1):
        told[foot] = told.get(foot - size, 0) + wide.count(foot) - wide.count(foot - 1)
    return told
