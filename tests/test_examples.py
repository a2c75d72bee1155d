"""Each example of the document's points [4] to [10], as it stands there."""

import importlib
import unittest

from tests.examples import check

POINT_4 = """
    >>> slab, corner = ((0, 0), (0, 1), (1, 0), (1, 1), (2, 0), (2, 1)), ((0, 0), (0, 1), (1, 0))
    >>> block, square, bench, long = [tuple([(x, y) for x in range(wide) for y in range(high)]) for wide, high in ((3, 3), (4, 4), (4, 3), (6, 3))]
    >>> knot, strait = ((0, 1), (1, 1), (2, 0), (2, 1), (2, 2), (3, 0)), ((0, 1), (0, 2), (1, 1), (2, 1), (3, 0), (3, 1))
    >>> diagonal(slab, 1), diagonal(knot, 3), diagonal(slab, 9), span(slab), span(strait)
    (((0, 1), (1, 0)), ((2, 1), (3, 0)), (), (0, 3), (1, 4))
    >>> borders(corner), len(borders(slab)), len(borders(knot))
    (((-1, 0), (-1, 1), (0, -1), (0, 2), (1, -1), (1, 1), (2, 0)), 10, 11)
    >>> cup = ((0, 0), (0, 1), (0, 2), (1, 0), (2, 0), (2, 1))
    >>> can_grow(cup, (1, 1)), can_grow(cup, (1, 2)), can_grow(cup, (2, 2)), can_grow(cup, (3, 2)), can_grow(cup, (0, 0))
    (True, False, True, False, False)
    >>> grown(corner, (1, 1)), shrunk(slab, (1, 0))
    (((0, 0), (0, 1), (1, 0), (1, 1)), ((0, 0), (0, 1), (1, 1), (2, 0), (2, 1)))
    >>> is_floor(knot), is_floor(((0, 0), (1, 1))), is_floor(()), is_floor(((0, 1), (0, 0))), is_floor([(0, 0)]), is_floor(((10 ** 20, -3),))
    (True, False, False, False, False, True)
    >>> shrunk(block, (1, 1))
    raises Unfit()
    >>> shrunk(corner, (0, 0))
    raises Unfit()
    >>> shrunk(slab, (3, 0))
    raises NoCell(cell=(3, 0))
    >>> grown(slab, (3, 2))
    raises Unfit()
"""

POINT_5 = """
    >>> mirrored(knot), half_turned(corner), shifted(corner, (2, -1))
    (((0, 2), (0, 3), (1, 0), (1, 1), (1, 2), (2, 2)), ((-1, 0), (0, -1), (0, 0)), ((2, -1), (2, 0), (3, -1)))
    >>> stair_mirrored(((0, 0), (0, 1))), stair_half_turned(((0, 0), (0, 1))), stair_shifted(((0, 0), (0, 1)), (-3, 5)), stair_half_turned(((2, 5), ()))
    (((0, 0), (1, 0)), ((-1, -1), (1, 0)), ((-3, 5), (0, 1)), ((-2, -5), ()))
    >>> flat, bent = (((0, 0), (0, 0)), ((0, 1), (0, 0))), (((0, 0), (1, 0)), ((1, 0), (0, 1)))
    >>> laying_mirrored(flat), laying_half_turned(bent), laying_shifted(bent, (1, 1))
    ((((0, 0), (1, 1)), ((1, 0), (1, 1))), (((-2, -1), (1, 0)), ((-1, -1), (0, 1))), (((1, 1), (1, 0)), ((2, 1), (0, 1))))
    >>> alike(slab, ((5, 5), (5, 6), (5, 7), (6, 5), (6, 6), (6, 7))), alike(corner, half_turned(corner)), alike(corner, ((0, 0), (1, 0), (1, 1)))
    (True, True, False)
    >>> laying_mirrored((((0, 0), (0,)), ((0, 0), (1,))))
    raises Unfit()
"""

POINT_6 = """
    >>> slab = ((0, 0), (0, 1), (1, 0), (1, 1), (2, 0), (2, 1))
    >>> stairs_in(slab, 3)
    [((0, 0), (0, 0)), ((0, 0), (0, 1)), ((0, 0), (1, 0)), ((0, 1), (0, 0)), ((1, 0), (0, 1)), ((1, 0), (1, 0))]
    >>> flat, bent = (((0, 0), (0, 0)), ((0, 1), (0, 0))), (((0, 0), (1, 0)), ((1, 0), (0, 1)))
    >>> cells_of(((0, 0), (1, 0))), foot_of(((0, 1), (0, 0))), size_of(((4, -7), ())), is_stair(((0, 0), (0, 2))), is_stair(((0, 0), [0]))
    (((0, 0), (0, 1), (1, 1)), 1, 1, False, False)
    >>> is_laying(slab, 3, flat), is_laying(slab, 3, bent), is_laying(slab, 2, flat), is_laying(slab, 3, flat[::-1]), is_laying(slab, 3, flat[:1])
    (True, True, False, False, False)
    >>> names(bent), name_at(flat, (2, 0)), floor_of(bent) == slab
    ((((0, 0), ((0, 0), (1, 0))), ((1, 0), ((1, 0), (0, 1)))), (0, 0), True)
    >>> fan = (((0, 1), (1,)), ((1, 0), (0,)), ((1, 1), (0,)))
    >>> names(fan), stair_named(fan, (1, 1))
    ((((1, 0), ((0, 1), (1,))), ((1, 1), ((1, 0), (0,))), ((2, 0), ((1, 1), (0,)))), ((1, 0), (0,)))
    >>> stair_named(fan, (1, 2))
    raises NoName(name=(1, 2))
    >>> name_at(flat, (3, 0))
    raises NoCell(cell=(3, 0))
    >>> floor_of((((0, 0), (0,)), ((2, 1), (0,))))
    raises Unfit()
"""

POINT_7 = """
    >>> slab, corner = ((0, 0), (0, 1), (1, 0), (1, 1), (2, 0), (2, 1)), ((0, 0), (0, 1), (1, 0))
    >>> block = ((0, 0), (0, 1), (0, 2), (1, 0), (1, 1), (1, 2), (2, 0), (2, 1), (2, 2))
    >>> counts(slab, 2), counts(slab, 3), counts(corner, 3), counts(block, 2)
    (((0, 1), (1, 1), (2, 1)), ((0, 1), (1, 1)), ((0, 1), (1, 1)), ((0, 1), (1, 1), (2, 2), (4, 1)))
    >>> counts(block, 4), count(slab, 3, 1), count(slab, 3, 2), count(corner, 3, 2), count(corner, 3, -7)
    (((0, 1), (1, 1), (2, 1), (3, -1)), 1, 0, 0, 0)
    >>> [count_bar(slab, 2), count_bar(slab, 3), count_bar(corner, 3), count_bar(corner, 2), count_bar(block, 2), count_bar(block, 4)]
    [None, None, 0, 1, 4, 2]
    >>> names_of(slab, 2), names_of(block, 3), names_of(corner, 1), names_of(((5, -2),), 1)
    (((0, 0), (1, 0), (2, 0)), ((0, 0), (1, 0), (2, 0)), ((0, 0), (1, 0), (1, 1)), ((3, 0),))
    >>> names_of(corner, 3)
    raises CanNot()
    >>> counts(slab, 0)
    raises Unfit()
"""

POINT_8 = """
    >>> slab = ((0, 0), (0, 1), (1, 0), (1, 1), (2, 0), (2, 1))
    >>> rim(slab)
    ((0, 0), (1, 0), (2, 0), (3, 0), (3, 1), (3, 2), (2, 2), (1, 2), (0, 2), (0, 1))
    >>> left_of(slab, (2, 1)), left_of(slab, (1, 1)), left_of(slab, (3, 0)), left_of(slab, (9, 9))
    (1, 1, 2, 0)
    >>> [rim_numbers(slab, 2, own) for own in ((1, 0), (2, 0), (3, 0), (3, 1), (0, 2))], rim_numbers(slab, 3, (3, 0))
    ([(0, 1), (1, 1), (1, 1), (1, 0), (0, 0)], (1, 1, 0))
    >>> strait = ((0, 1), (0, 2), (1, 1), (2, 1), (3, 0), (3, 1))
    >>> rim_rows(strait, 3)[2:5], rim_numbers(strait, 3, (1, 2)), rim_bar(strait, 3), rim_bar(slab, 3)
    ((((2, 1), (0, 1, 1)), ((3, 1), (1, 1, -1)), ((3, 0), (0, 1, 1))), (1, 0, 0), (1, 2), None)
    >>> knot, corner = ((0, 1), (1, 1), (2, 0), (2, 1), (2, 2), (3, 0)), ((0, 0), (0, 1), (1, 0))
    >>> rim_bar(knot, 3), rim(corner)[3:6], rim_rows(corner, 1)[2:4], rim_rows(((5, 5),), 1)
    (None, ((2, 1), (1, 1), (1, 2)), (((2, 0), (2,)), ((2, 1), (0,))), (((5, 5), (0,)), ((6, 5), (1,)), ((6, 6), (0,)), ((5, 6), (0,))))
    >>> rim_numbers(slab, 2, (1, 1))
    raises NoPoint(point=(1, 1))
    >>> rim_rows(corner, 3)
    raises CanNot()
    >>> rim(((0, 0), (1, 1)))
    raises Unfit()
"""

POINT_9 = """
    >>> slab, bench = ((0, 0), (0, 1), (1, 0), (1, 1), (2, 0), (2, 1)), tuple([(x, y) for x in range(4) for y in range(3)])
    >>> knot = ((0, 1), (1, 1), (2, 0), (2, 1), (2, 2), (3, 0))
    >>> runs(slab, 1), runs(slab, -1), runs(slab, 4)
    ([((0, 1), (1, 1), (1, 0), (2, 0))], [((0, 0),)], [])
    >>> runs(knot, 1), runs(knot, 3)
    ([((0, 1), (1, 1)), ((2, 0),)], [((2, 2), (2, 1)), ((3, 0),)])
    >>> run_numbers(slab, 2, 1), run_numbers(slab, 3, 1), run_numbers(knot, 3, 1), run_numbers(knot, 3, 3)
    ([(1, 1)], [(0, 0)], [(0, 0), (0, 1)], [(0, 0), (1, 0)])
    >>> told_row(slab, 2, 0), told_row(bench, 3, 0), told_row(knot, 3, 1), told_row(slab, 2, 9)
    (((0, 0), (2, 0)), ((0, 0), (3, 0)), ((1, 0),), ())
    >>> square = tuple([(x, y) for x in range(4) for y in range(4)])
    >>> told_row(square, 2, 0), told_row(square, 2, 2), told_row(square, 2, -1)
    (((2, 0), (0, 0), (2, 1)), ((2, 0), (4, 0), (2, 1)), ((1, 0),))
    >>> pit = ((-3, 1), (-2, 0), (-2, 1), (-2, 2), (-2, 3), (-2, 4), (-1, -1), (-1, 0), (-1, 1), (0, -1), (0, 0), (0, 1), (0, 2), (0, 3), (1, -1), (1, 0), (1, 2), (2, 0))
    >>> run_numbers(pit, 3, 2)
    [(1, 0), (-1, 0), (1, 0)]
    >>> told_row(pit, 3, 0)
    raises CanNot()
    >>> run_numbers(((0, 0), (0, 1), (1, 0)), 3, 0)
    raises CanNot()
    >>> told_row(slab, 0, 1)
    raises Unfit()
"""

POINT_10 = """
    >>> block = tuple([(x, y) for x in range(3) for y in range(3)])
    >>> told_pairs(block, 3), told_pairs(bench, 3), told_pairs(slab, 2)
    ((), (((0, 0), (3, 0)),), (((0, 0), (2, 0)),))
    >>> told_pairs(knot, 3), [reason(knot, 3, own) for own in told_pairs(knot, 3)]
    ((((1, 0), (2, 0)), ((2, 0), (1, 0))), [('rim', (2, 1)), ('rim', (3, 1))])
    >>> knot2 = ((0, 2), (1, 0), (1, 1), (1, 2), (1, 3), (2, 1))
    >>> told_pairs(knot2, 2)
    (((1, 0), (3, 0)), ((2, 0), (1, 0)), ((3, 0), (2, 0)))
    >>> [reason(knot2, 2, own) for own in told_pairs(knot2, 2)], len(told_ring(knot2, 2)), is_ring(knot2, 2, ((1, 0), (3, 0), (2, 0)))
    ([('run', 2), ('rim', (1, 2)), ('rim', (2, 2))], 3, True)
    >>> is_ring(knot, 3, ((2, 0), (1, 0))), is_ring(knot, 3, ((1, 0), (2, 0), (1, 0), (2, 0))), is_ring(knot, 3, [(1, 0), (2, 0)]), told_ring(bench, 3)
    (True, False, False, None)
    >>> len(told_pairs(square, 2)), [own for own in told_pairs(square, 2) if own[0][0] == own[1][0]], reason(square, 2, ((2, 0), (2, 1)))
    (10, [((2, 0), (2, 1)), ((3, 0), (3, 1))], ('foot',))
    >>> told_pairs(((0, 1), (1, 0), (1, 1), (2, 0), (3, 0), (4, 0)), 2)
    (((1, 0), (1, 1)), ((1, 1), (3, 0)))
    >>> reason(bench, 3, ((3, 0), (0, 0)))
    raises CanNot()
    >>> told_ring(((0, 1), (0, 2), (1, 1), (2, 1), (3, 0), (3, 1)), 3)
    raises CanNot()
"""

# The files whose words the examples use, and the points in the order in which they stand.
FILES = ("cells", "spaces", "layings", "counts", "rims", "runs", "told")
POINTS = (POINT_4, POINT_5, POINT_6, POINT_7, POINT_8, POINT_9, POINT_10)


class Examples(unittest.TestCase):
    def test_examples(self):
        # Names go on from point to point, as the document's do.
        space = {}
        for file in FILES:
            module = importlib.import_module(f"stairlaid.{file}")
            space.update({name: worth for name, worth in vars(module).items() if not name.startswith("_")})
        for text in POINTS:
            check(self, text, space)


if __name__ == "__main__":
    unittest.main()
