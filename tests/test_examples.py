"""Each example of the document's points [4], [6] and [7], as it stands there."""

import unittest

from stairlaid import cells, counts, layings
from tests.examples import check

POINT_4 = """
    >>> slab, corner = ((0, 0), (0, 1), (1, 0), (1, 1), (2, 0), (2, 1)), ((0, 0), (0, 1), (1, 0))
    >>> block, square, bench, long = [tuple([(x, y) for x in range(wide) for y in range(high)]) for wide, high in ((3, 3), (4, 4), (4, 3), (6, 3))]
    >>> knot, strait = ((0, 1), (1, 1), (2, 0), (2, 1), (2, 2), (3, 0)), ((0, 1), (0, 2), (1, 1), (2, 1), (3, 0), (3, 1))
    >>> diagonal(slab, 1), diagonal(knot, 3), diagonal(slab, 9), span(slab), span(strait)
    (((0, 1), (1, 0)), ((2, 1), (3, 0)), (), (0, 3), (1, 4))
    >>> borders(corner), len(borders(slab)), len(borders(knot))
    (((-1, 0), (-1, 1), (0, -1), (0, 2), (1, -1), (1, 1), (2, 0)), 10, 11)
    >>> cup = ((0, 0), (0, 1), (0, 2), (1, 0), (2, 0), (2, 1))
    >>> can_grow(cup, (1, 1)), can_grow(cup, (1, 2)), can_grow(cup, (2, 2)), can_grow(cup, (3, 2)), can_grow(cup, (0, 0))
    (True, False, True, False, False)
    >>> grown(corner, (1, 1)), shrunk(slab, (1, 0))
    (((0, 0), (0, 1), (1, 0), (1, 1)), ((0, 0), (0, 1), (1, 1), (2, 0), (2, 1)))
    >>> is_floor(knot), is_floor(((0, 0), (1, 1))), is_floor(()), is_floor(((0, 1), (0, 0))), is_floor([(0, 0)]), is_floor(((10 ** 20, -3),))
    (True, False, False, False, False, True)
    >>> shrunk(block, (1, 1))
    raises Unfit()
    >>> shrunk(corner, (0, 0))
    raises Unfit()
    >>> shrunk(slab, (3, 0))
    raises NoCell(cell=(3, 0))
    >>> grown(slab, (3, 2))
    raises Unfit()
"""

POINT_6 = """
    >>> slab = ((0, 0), (0, 1), (1, 0), (1, 1), (2, 0), (2, 1))
    >>> stairs_in(slab, 3)
    [((0, 0), (0, 0)), ((0, 0), (0, 1)), ((0, 0), (1, 0)), ((0, 1), (0, 0)), ((1, 0), (0, 1)), ((1, 0), (1, 0))]
    >>> flat, bent = (((0, 0), (0, 0)), ((0, 1), (0, 0))), (((0, 0), (1, 0)), ((1, 0), (0, 1)))
    >>> cells_of(((0, 0), (1, 0))), foot_of(((0, 1), (0, 0))), size_of(((4, -7), ())), is_stair(((0, 0), (0, 2))), is_stair(((0, 0), [0]))
    (((0, 0), (0, 1), (1, 1)), 1, 1, False, False)
    >>> is_laying(slab, 3, flat), is_laying(slab, 3, bent), is_laying(slab, 2, flat), is_laying(slab, 3, flat[::-1]), is_laying(slab, 3, flat[:1])
    (True, True, False, False, False)
    >>> names(bent), name_at(flat, (2, 0)), floor_of(bent) == slab
    ((((0, 0), ((0, 0), (1, 0))), ((1, 0), ((1, 0), (0, 1)))), (0, 0), True)
    >>> fan = (((0, 1), (1,)), ((1, 0), (0,)), ((1, 1), (0,)))
    >>> names(fan), stair_named(fan, (1, 1))
    ((((1, 0), ((0, 1), (1,))), ((1, 1), ((1, 0), (0,))), ((2, 0), ((1, 1), (0,)))), ((1, 0), (0,)))
    >>> stair_named(fan, (1, 2))
    raises NoName(name=(1, 2))
    >>> name_at(flat, (3, 0))
    raises NoCell(cell=(3, 0))
    >>> floor_of((((0, 0), (0,)), ((2, 1), (0,))))
    raises Unfit()
"""

POINT_7 = """
    >>> slab, corner = ((0, 0), (0, 1), (1, 0), (1, 1), (2, 0), (2, 1)), ((0, 0), (0, 1), (1, 0))
    >>> block = ((0, 0), (0, 1), (0, 2), (1, 0), (1, 1), (1, 2), (2, 0), (2, 1), (2, 2))
    >>> counts(slab, 2), counts(slab, 3), counts(corner, 3), counts(block, 2)
    (((0, 1), (1, 1), (2, 1)), ((0, 1), (1, 1)), ((0, 1), (1, 1)), ((0, 1), (1, 1), (2, 2), (4, 1)))
    >>> counts(block, 4), count(slab, 3, 1), count(slab, 3, 2), count(corner, 3, 2), count(corner, 3, -7)
    (((0, 1), (1, 1), (2, 1), (3, -1)), 1, 0, 0, 0)
    >>> [count_bar(slab, 2), count_bar(slab, 3), count_bar(corner, 3), count_bar(corner, 2), count_bar(block, 2), count_bar(block, 4)]
    [None, None, 0, 1, 4, 2]
    >>> names_of(slab, 2), names_of(block, 3), names_of(corner, 1), names_of(((5, -2),), 1)
    (((0, 0), (1, 0), (2, 0)), ((0, 0), (1, 0), (2, 0)), ((0, 0), (1, 0), (1, 1)), ((3, 0),))
    >>> names_of(corner, 3)
    raises CanNot()
    >>> counts(slab, 0)
    raises Unfit()
"""


def public(module):
    return {name: worth for name, worth in vars(module).items() if not name.startswith("_")}


class Examples(unittest.TestCase):
    def test_examples(self):
        # Names go on from point to point, as the document's do.
        space = {**public(cells), **public(layings), **public(counts)}
        for point, text in (("4", POINT_4), ("6", POINT_6), ("7", POINT_7)):
            with self.subTest(point=point):
                check(self, text, space)


if __name__ == "__main__":
    unittest.main()
