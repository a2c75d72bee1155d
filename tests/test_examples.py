"""Each example of the document's points [4] to [22], as it stands there."""

import importlib
import unittest

from tests.examples import check

POINT_4 = """
    >>> slab, corner = ((0, 0), (0, 1), (1, 0), (1, 1), (2, 0), (2, 1)), ((0, 0), (0, 1), (1, 0))
    >>> block, square, bench, long = [tuple([(x, y) for x in range(wide) for y in range(high)]) for wide, high in ((3, 3), (4, 4), (4, 3), (6, 3))]
    >>> knot, strait = ((0, 1), (1, 1), (2, 0), (2, 1), (2, 2), (3, 0)), ((0, 1), (0, 2), (1, 1), (2, 1), (3, 0), (3, 1))
    >>> diagonal(slab, 1), diagonal(knot, 3), diagonal(slab, 9), span(slab), span(strait)
    (((0, 1), (1, 0)), ((2, 1), (3, 0)), (), (0, 3), (1, 4))
    >>> borders(corner), len(borders(slab)), len(borders(knot))
    (((-1, 0), (-1, 1), (0, -1), (0, 2), (1, -1), (1, 1), (2, 0)), 10, 11)
    >>> cup = ((0, 0), (0, 1), (0, 2), (1, 0), (2, 0), (2, 1))
    >>> can_grow(cup, (1, 1)), can_grow(cup, (1, 2)), can_grow(cup, (2, 2)), can_grow(cup, (3, 2)), can_grow(cup, (0, 0))
    (True, False, True, False, False)
    >>> grown(corner, (1, 1)), shrunk(slab, (1, 0))
    (((0, 0), (0, 1), (1, 0), (1, 1)), ((0, 0), (0, 1), (1, 1), (2, 0), (2, 1)))
    >>> is_floor(knot), is_floor(((0, 0), (1, 1))), is_floor(()), is_floor(((0, 1), (0, 0))), is_floor([(0, 0)]), is_floor(((10 ** 20, -3),))
    (True, False, False, False, False, True)
    >>> shrunk(block, (1, 1))
    raises Unfit()
    >>> shrunk(corner, (0, 0))
    raises Unfit()
    >>> shrunk(slab, (3, 0))
    raises NoCell(cell=(3, 0))
    >>> grown(slab, (3, 2))
    raises Unfit()
"""

POINT_5 = """
    >>> mirrored(knot), half_turned(corner), shifted(corner, (2, -1))
    (((0, 2), (0, 3), (1, 0), (1, 1), (1, 2), (2, 2)), ((-1, 0), (0, -1), (0, 0)), ((2, -1), (2, 0), (3, -1)))
    >>> stair_mirrored(((0, 0), (0, 1))), stair_half_turned(((0, 0), (0, 1))), stair_shifted(((0, 0), (0, 1)), (-3, 5)), stair_half_turned(((2, 5), ()))
    (((0, 0), (1, 0)), ((-1, -1), (1, 0)), ((-3, 5), (0, 1)), ((-2, -5), ()))
    >>> flat, bent = (((0, 0), (0, 0)), ((0, 1), (0, 0))), (((0, 0), (1, 0)), ((1, 0), (0, 1)))
    >>> laying_mirrored(flat), laying_half_turned(bent), laying_shifted(bent, (1, 1))
    ((((0, 0), (1, 1)), ((1, 0), (1, 1))), (((-2, -1), (1, 0)), ((-1, -1), (0, 1))), (((1, 1), (1, 0)), ((2, 1), (0, 1))))
    >>> alike(slab, ((5, 5), (5, 6), (5, 7), (6, 5), (6, 6), (6, 7))), alike(corner, half_turned(corner)), alike(corner, ((0, 0), (1, 0), (1, 1)))
    (True, True, False)
    >>> laying_mirrored((((0, 0), (0,)), ((0, 0), (1,))))
    raises Unfit()
"""

POINT_6 = """
    >>> slab = ((0, 0), (0, 1), (1, 0), (1, 1), (2, 0), (2, 1))
    >>> stairs_in(slab, 3)
    [((0, 0), (0, 0)), ((0, 0), (0, 1)), ((0, 0), (1, 0)), ((0, 1), (0, 0)), ((1, 0), (0, 1)), ((1, 0), (1, 0))]
    >>> flat, bent = (((0, 0), (0, 0)), ((0, 1), (0, 0))), (((0, 0), (1, 0)), ((1, 0), (0, 1)))
    >>> cells_of(((0, 0), (1, 0))), foot_of(((0, 1), (0, 0))), size_of(((4, -7), ())), is_stair(((0, 0), (0, 2))), is_stair(((0, 0), [0]))
    (((0, 0), (0, 1), (1, 1)), 1, 1, False, False)
    >>> is_laying(slab, 3, flat), is_laying(slab, 3, bent), is_laying(slab, 2, flat), is_laying(slab, 3, flat[::-1]), is_laying(slab, 3, flat[:1])
    (True, True, False, False, False)
    >>> names(bent), name_at(flat, (2, 0)), floor_of(bent) == slab
    ((((0, 0), ((0, 0), (1, 0))), ((1, 0), ((1, 0), (0, 1)))), (0, 0), True)
    >>> fan = (((0, 1), (1,)), ((1, 0), (0,)), ((1, 1), (0,)))
    >>> names(fan), stair_named(fan, (1, 1))
    ((((1, 0), ((0, 1), (1,))), ((1, 1), ((1, 0), (0,))), ((2, 0), ((1, 1), (0,)))), ((1, 0), (0,)))
    >>> stair_named(fan, (1, 2))
    raises NoName(name=(1, 2))
    >>> name_at(flat, (3, 0))
    raises NoCell(cell=(3, 0))
    >>> floor_of((((0, 0), (0,)), ((2, 1), (0,))))
    raises Unfit()
"""

POINT_7 = """
    >>> slab, corner = ((0, 0), (0, 1), (1, 0), (1, 1), (2, 0), (2, 1)), ((0, 0), (0, 1), (1, 0))
    >>> block = ((0, 0), (0, 1), (0, 2), (1, 0), (1, 1), (1, 2), (2, 0), (2, 1), (2, 2))
    >>> counts(slab, 2), counts(slab, 3), counts(corner, 3), counts(block, 2)
    (((0, 1), (1, 1), (2, 1)), ((0, 1), (1, 1)), ((0, 1), (1, 1)), ((0, 1), (1, 1), (2, 2), (4, 1)))
    >>> counts(block, 4), count(slab, 3, 1), count(slab, 3, 2), count(corner, 3, 2), count(corner, 3, -7)
    (((0, 1), (1, 1), (2, 1), (3, -1)), 1, 0, 0, 0)
    >>> [count_bar(slab, 2), count_bar(slab, 3), count_bar(corner, 3), count_bar(corner, 2), count_bar(block, 2), count_bar(block, 4)]
    [None, None, 0, 1, 4, 2]
    >>> names_of(slab, 2), names_of(block, 3), names_of(corner, 1), names_of(((5, -2),), 1)
    (((0, 0), (1, 0), (2, 0)), ((0, 0), (1, 0), (2, 0)), ((0, 0), (1, 0), (1, 1)), ((3, 0),))
    >>> names_of(corner, 3)
    raises CanNot()
    >>> counts(slab, 0)
    raises Unfit()
"""

POINT_8 = """
    >>> slab = ((0, 0), (0, 1), (1, 0), (1, 1), (2, 0), (2, 1))
    >>> rim(slab)
    ((0, 0), (1, 0), (2, 0), (3, 0), (3, 1), (3, 2), (2, 2), (1, 2), (0, 2), (0, 1))
    >>> left_of(slab, (2, 1)), left_of(slab, (1, 1)), left_of(slab, (3, 0)), left_of(slab, (9, 9))
    (1, 1, 2, 0)
    >>> [rim_numbers(slab, 2, own) for own in ((1, 0), (2, 0), (3, 0), (3, 1), (0, 2))], rim_numbers(slab, 3, (3, 0))
    ([(0, 1), (1, 1), (1, 1), (1, 0), (0, 0)], (1, 1, 0))
    >>> strait = ((0, 1), (0, 2), (1, 1), (2, 1), (3, 0), (3, 1))
    >>> rim_rows(strait, 3)[2:5], rim_numbers(strait, 3, (1, 2)), rim_bar(strait, 3), rim_bar(slab, 3)
    ((((2, 1), (0, 1, 1)), ((3, 1), (1, 1, -1)), ((3, 0), (0, 1, 1))), (1, 0, 0), (1, 2), None)
    >>> knot, corner = ((0, 1), (1, 1), (2, 0), (2, 1), (2, 2), (3, 0)), ((0, 0), (0, 1), (1, 0))
    >>> rim_bar(knot, 3), rim(corner)[3:6], rim_rows(corner, 1)[2:4], rim_rows(((5, 5),), 1)
    (None, ((2, 1), (1, 1), (1, 2)), (((2, 0), (2,)), ((2, 1), (0,))), (((5, 5), (0,)), ((6, 5), (1,)), ((6, 6), (0,)), ((5, 6), (0,))))
    >>> rim_numbers(slab, 2, (1, 1))
    raises NoPoint(point=(1, 1))
    >>> rim_rows(corner, 3)
    raises CanNot()
    >>> rim(((0, 0), (1, 1)))
    raises Unfit()
"""

POINT_9 = """
    >>> slab, bench = ((0, 0), (0, 1), (1, 0), (1, 1), (2, 0), (2, 1)), tuple([(x, y) for x in range(4) for y in range(3)])
    >>> knot = ((0, 1), (1, 1), (2, 0), (2, 1), (2, 2), (3, 0))
    >>> runs(slab, 1), runs(slab, -1), runs(slab, 4)
    ([((0, 1), (1, 1), (1, 0), (2, 0))], [((0, 0),)], [])
    >>> runs(knot, 1), runs(knot, 3)
    ([((0, 1), (1, 1)), ((2, 0),)], [((2, 2), (2, 1)), ((3, 0),)])
    >>> run_numbers(slab, 2, 1), run_numbers(slab, 3, 1), run_numbers(knot, 3, 1), run_numbers(knot, 3, 3)
    ([(1, 1)], [(0, 0)], [(0, 0), (0, 1)], [(0, 0), (1, 0)])
    >>> told_row(slab, 2, 0), told_row(bench, 3, 0), told_row(knot, 3, 1), told_row(slab, 2, 9)
    (((0, 0), (2, 0)), ((0, 0), (3, 0)), ((1, 0),), ())
    >>> square = tuple([(x, y) for x in range(4) for y in range(4)])
    >>> told_row(square, 2, 0), told_row(square, 2, 2), told_row(square, 2, -1)
    (((2, 0), (0, 0), (2, 1)), ((2, 0), (4, 0), (2, 1)), ((1, 0),))
    >>> pit = ((-3, 1), (-2, 0), (-2, 1), (-2, 2), (-2, 3), (-2, 4), (-1, -1), (-1, 0), (-1, 1), (0, -1), (0, 0), (0, 1), (0, 2), (0, 3), (1, -1), (1, 0), (1, 2), (2, 0))
    >>> run_numbers(pit, 3, 2)
    [(1, 0), (-1, 0), (1, 0)]
    >>> told_row(pit, 3, 0)
    raises CanNot()
    >>> run_numbers(((0, 0), (0, 1), (1, 0)), 3, 0)
    raises CanNot()
    >>> told_row(slab, 0, 1)
    raises Unfit()
"""

POINT_10 = """
    >>> block = tuple([(x, y) for x in range(3) for y in range(3)])
    >>> told_pairs(block, 3), told_pairs(bench, 3), told_pairs(slab, 2)
    ((), (((0, 0), (3, 0)),), (((0, 0), (2, 0)),))
    >>> told_pairs(knot, 3), [reason(knot, 3, own) for own in told_pairs(knot, 3)]
    ((((1, 0), (2, 0)), ((2, 0), (1, 0))), [('rim', (2, 1)), ('rim', (3, 1))])
    >>> knot2 = ((0, 2), (1, 0), (1, 1), (1, 2), (1, 3), (2, 1))
    >>> told_pairs(knot2, 2)
    (((1, 0), (3, 0)), ((2, 0), (1, 0)), ((3, 0), (2, 0)))
    >>> [reason(knot2, 2, own) for own in told_pairs(knot2, 2)], len(told_ring(knot2, 2)), is_ring(knot2, 2, ((1, 0), (3, 0), (2, 0)))
    ([('run', 2), ('rim', (1, 2)), ('rim', (2, 2))], 3, True)
    >>> is_ring(knot, 3, ((2, 0), (1, 0))), is_ring(knot, 3, ((1, 0), (2, 0), (1, 0), (2, 0))), is_ring(knot, 3, [(1, 0), (2, 0)]), told_ring(bench, 3)
    (True, False, False, None)
    >>> len(told_pairs(square, 2)), [own for own in told_pairs(square, 2) if own[0][0] == own[1][0]], reason(square, 2, ((2, 0), (2, 1)))
    (10, [((2, 0), (2, 1)), ((3, 0), (3, 1))], ('foot',))
    >>> told_pairs(((0, 1), (1, 0), (1, 1), (2, 0), (3, 0), (4, 0)), 2)
    (((1, 0), (1, 1)), ((1, 1), (3, 0)))
    >>> reason(bench, 3, ((3, 0), (0, 0)))
    raises CanNot()
    >>> told_ring(((0, 1), (0, 2), (1, 1), (2, 1), (3, 0), (3, 1)), 3)
    raises CanNot()
"""

POINT_11 = """
    >>> block = tuple([(x, y) for x in range(3) for y in range(3)])
    >>> flat = (((0, 0), (0, 0)), ((0, 1), (0, 0)), ((0, 2), (0, 0)))
    >>> order_of(flat), ahead(flat, (0, 0), (2, 0)), ahead(flat, (2, 0), (0, 0)), ahead(flat, (1, 0), (1, 0))
    ((((1, 0), (0, 0)), ((2, 0), (0, 0)), ((2, 0), (1, 0))), -1, 1, 0)
    >>> free_pairs(block, 3)
    (((0, 0), (1, 0)), ((0, 0), (2, 0)), ((1, 0), (2, 0)))
    >>> laying_of(block, 3, (((0, 0), (2, 0)), ((1, 0), (0, 0)), ((1, 0), (2, 0))))
    (((0, 0), (0, 1)), ((0, 1), (1, 0)), ((2, 0), (1, 1)))
    >>> round_about = (((0, 0), (1, 0)), ((1, 0), (2, 0)), ((2, 0), (0, 0)))
    >>> is_order(block, 3, order_of(flat)), is_order(block, 3, round_about), is_order(block, 3, order_of(flat)[:2])
    (True, False, False)
    >>> strip = (((0, 0), (0, 0)), ((0, 1), (0, 0)), ((0, 2), (0, 0)), ((3, 0), (1, 1)))
    >>> order_of(strip)[:2], ahead(strip, (3, 0), (0, 0)), free_pairs(floor_of(strip), 3)[3:]
    ((((0, 0), (3, 0)), ((1, 0), (0, 0))), -1, (((1, 0), (3, 0)), ((2, 0), (3, 0))))
    >>> ahead(flat, (0, 0), (3, 0))
    raises NoName(name=(3, 0))
    >>> laying_of(block, 3, round_about)
    raises Unfit()
    >>> free_pairs(((0, 0), (0, 1), (1, 0)), 3)
    raises CanNot()
"""

POINT_12 = """
    >>> rows(flat), first_ones(flat), least_row(strip), laid_by(block, 3, (1, 2, 0))
    ([(2, 1, 0)], ((2, 0),), (2, 1, 0, 3), (((0, 0), (0, 0)), ((0, 1), (1, 0)), ((1, 1), (0, 1))))
    >>> first_cells(block, 3, 2), first_cells(block, 3, 1)
    (((0, 2), (1, 2), (2, 2)), ((0, 1), (0, 2), (1, 2)))
    >>> wide = flat + tuple([((3, y), (0, 0)) for y in range(3)])
    >>> rows(wide)
    [(2, 1, 0, 5, 4, 3), (2, 1, 5, 0, 4, 3), (2, 1, 5, 4, 0, 3), (2, 5, 1, 0, 4, 3), (2, 5, 1, 4, 0, 3)]
    >>> rows_alike(3, (2, 1, 0, 5, 4, 3), (2, 5, 1, 4, 0, 3)), rows_alike(3, (2, 1, 0), (2, 0, 1)), rows_alike(3, (0, 3), (3, 0)), rows_alike(3, (0, 4), (4, 0))
    (True, False, False, True)
    >>> laid_by(floor_of(wide), 3, (2, 5, 1, 4, 0, 3)) == wide, laid_by(((5, 5),), 1, (10,))
    (True, (((5, 5), ()),))
    >>> laid_by(floor_of(strip), 3, (3, 0, 1, 2))
    raises Broken(place=0)
    >>> laid_by(block, 3, (2, 1, 1))
    raises Broken(place=2)
    >>> laid_by(block, 3, (2, 1))
    raises Unfit()
    >>> first_cells(block, 3, 3)
    raises CanNot()
"""

POINT_13 = """
    >>> corner, knot = ((0, 0), (0, 1), (1, 0)), ((0, 1), (1, 1), (2, 0), (2, 1), (2, 2), (3, 0))
    >>> strait, fork = ((0, 1), (0, 2), (1, 1), (2, 1), (3, 0), (3, 1)), ((0, 1), (1, 1), (1, 2), (2, 0), (2, 1), (3, 1))
    >>> slab = ((0, 0), (0, 1), (1, 0), (1, 1), (2, 0), (2, 1))
    >>> [can_lay(slab, own) for own in (1, 2, 3, 4)], [can_lay(own, 3) for own in (corner, knot, strait)], can_lay(fork, 2)
    ([True, True, True, False], [False, False, False], False)
    >>> bar(corner, 3), bar(slab, 4), bar(strait, 3), lay(slab, 1) == tuple([(cell, ()) for cell in slab])
    (('count', 0), ('count', 1), ('rim', (1, 2)), True)
    >>> [is_bar(corner, 3, ("count", own)) for own in (-1, 0, 1, 2)], [is_bar(strait, 3, ("rim", own)) for own in ((1, 2), (3, 1), (2, 2), (9, 9))]
    ([False, True, True, False], [True, True, False, False])
    >>> bar(knot, 3)[0], len(bar(knot, 3)[1]), is_bar(knot, 3, ("ring", ((2, 0), (1, 0)))), is_bar(fork, 2, ("ring", ((1, 0), (2, 0), (3, 0))))
    ('ring', 2, True, True)
    >>> is_bar(fork, 2, ("ring", ((1, 0), (3, 0), (2, 0)))), is_bar(strait, 3, ("ring", ((1, 0),))), is_bar(slab, 3, ("count", 0)), is_bar(knot, 3, None)
    (False, False, False, False)
    >>> lay(corner, 3)
    raises CanNot()
    >>> bar(slab, 3)
    raises CanNot()
    >>> can_lay(((0, 0), (1, 1)), 2)
    raises Unfit()
"""

POINT_14 = """
    >>> block = tuple([(x, y) for x in (0, 1, 2) for y in (0, 1, 2)])
    >>> beds, posts = tuple([((0, y), (0, 0)) for y in (0, 1, 2)]), tuple([((x, 0), (1, 1)) for x in (0, 1, 2)])
    >>> turns(beds), between(beds, (2, 0), (0, 0)), between(beds, (0, 0), (2, 0)), can_turn(beds, ((2, 0), (0, 0)))
    ((((1, 0), (0, 0)), ((2, 0), (1, 0))), ((1, 0),), (), False)
    >>> turned(beds, ((1, 0), (0, 0))), turned_steps(beds, ((1, 0), (0, 0)))
    ((((0, 0), (1, 0)), ((0, 2), (0, 0)), ((1, 0), (0, 1))), (2, 1, 0))
    >>> apart(beds, posts), fewest(beds, posts), fewest(beds, beds), plan(beds, beds)
    ((((0, 0), (1, 0)), ((0, 0), (2, 0)), ((1, 0), (2, 0))), 3, 0, ())
    >>> way = (((1, 0), (0, 0)), ((2, 0), (0, 0)), ((2, 0), (1, 0)))
    >>> is_plan(beds, posts, way), is_plan(beds, posts, way[:2]), is_plan(beds, posts, plan(beds, posts)), len(plan(beds, posts))
    (True, False, True, 3)
    >>> behind(beds, way) == posts, behind(beds, ()) == beds, is_plan(beds, beds, (way[0], ((0, 0), (1, 0))))
    (True, True, True)
    >>> behind(beds, way[1:])
    raises Broken(place=0)
    >>> turned(beds, ((2, 0), (0, 0)))
    raises CanNot()
    >>> can_turn(beds, ((0, 0), (0, 1)))
    raises NoName(name=(0, 1))
    >>> fewest(beds, beds[:2])
    raises Unfit()
"""

POINT_15 = """
    >>> shape(beds[0]), shapes(beds), shapes(posts), ups(beds, 1), ups(posts, 2), sums(beds), middles(posts)
    ((0, 0), (((0, 0), 3),), (((1, 1), 3),), 0, 3, (0,), (0, 0))
    >>> shapes_behind(beds, ((1, 0), (0, 0)))
    (((0, 0), 1), ((0, 1), 1), ((1, 0), 1))
    >>> ledge = ((0, 0), (0, 1), (0, 2), (0, 3), (1, 0), (1, 1), (1, 2), (1, 3), (1, 4))
    >>> tall = (((0, 0), (1, 1)), ((0, 3), (0, 1)), ((1, 0), (1, 1)))
    >>> shapes(tall), ups(tall, 1), ups(tall, 2), sums(tall), middles(tall)
    ((((0, 1), 1), ((1, 1), 2)), 2, 3, (-1,), (-8, -6))
    >>> sums_of(ledge, 3), middles_of(ledge, 3), can_have(ledge, 3, shapes(tall)), can_have(ledge, 3, shapes(posts))
    ((-1,), (-8, -6), True, False)
    >>> slab = ((0, 0), (0, 1), (1, 0), (1, 1), (2, 0), (2, 1))
    >>> sums_of(slab, 2), middles_of(slab, 2), sums_of(block, 3), middles_of(block, 1)
    ((), (3,), (0,), (0,))
    >>> sums_of(((0, 0), (0, 1), (1, 0)), 3)
    raises CanNot()
    >>> ups(beds, 3)
    raises Unfit()
"""

POINT_16 = """
    >>> slab, bench, corner = ((0, 0), (0, 1), (1, 0), (1, 1), (2, 0), (2, 1)), tuple([(x, y) for x in range(4) for y in range(3)]), ((0, 0), (0, 1), (1, 0))
    >>> all_layings(slab, 3), all_layings(corner, 3), all_layings(corner, 1)
    ([(((0, 0), (0, 0)), ((0, 1), (0, 0))), (((0, 0), (1, 0)), ((1, 0), (0, 1)))], [], [(((0, 0), ()), ((0, 1), ()), ((1, 0), ()))])
    >>> [many(bench, size) for size in (1, 2, 3, 4, 5)], [many_by_rows(bench, size) for size in (1, 2, 3, 4, 5)]
    ([1, 11, 12, 6, 0], [1, 11, 12, 6, 0])
    >>> long = tuple([(x, y) for x in range(6) for y in range(3)])
    >>> many(long, 3), many_by_rows(long, 3), len(all_layings(long, 3))
    (61, 61, 61)
    >>> laying_at(slab, 2, 1), place_of((((0, 0), (1,)), ((1, 0), (1,)), ((2, 0), (1,))))
    ((((0, 0), (1,)), ((1, 0), (0,)), ((1, 1), (0,))), 2)
    >>> place_of(laying_at(bench, 3, 5)), laying_at(bench, 3, 0)
    (5, (((0, 0), (0, 0)), ((0, 1), (0, 0)), ((0, 2), (0, 0)), ((3, 0), (1, 1))))
    >>> pane = tuple([(x, y) for x in range(7) for y in range(4)])
    >>> all_layings(pane, 2)
    raises TooMany()
    >>> many(pane, 2)
    raises TooMany()
    >>> laying_at(slab, 3, 2)
    raises Unfit()
"""

POINT_17 = """
    >>> slab = ((0, 0), (0, 1), (1, 0), (1, 1), (2, 0), (2, 1))
    >>> tail = ((0, 0), (0, 1), (1, 0), (1, 1), (2, 0), (2, 1), (3, 1), (4, 1), (5, 1))
    >>> sure_stairs(tail, 3), sure_names(tail, 3), sure_stairs(slab, 3), loose_cells(tail, 3)
    ((((3, 1), (0, 0)),), ((4, 0),), (), ((0, 1), (1, 0), (1, 1), (2, 0)))
    >>> sure_name(slab, 3, (0, 0)), sure_name(slab, 3, (2, 1)), sure_name(slab, 3, (1, 1)), sure_name(tail, 3, (4, 1))
    ((0, 0), (1, 0), None, (4, 0))
    >>> places(slab, 3, (0, 0))
    (((0, 0), (0, 0)), ((0, 1), (1, 0)), ((1, 1), (2, 0)))
    >>> places(tail, 3, (4, 0)), places(slab, 2, (1, 0))
    ((((3, 1), (3, 1)), ((4, 1), (4, 1)), ((5, 1), (5, 1))), (((0, 1), (1, 0)), ((1, 1), (2, 0))))
    >>> places(slab, 3, (2, 0))
    raises NoName(name=(2, 0))
    >>> sure_name(slab, 3, (3, 0))
    raises NoCell(cell=(3, 0))
    >>> sure_names(((0, 0), (0, 1), (1, 0)), 3)
    raises CanNot()
    >>> loose_cells(slab, 0)
    raises Unfit()
"""

POINT_18 = """
    >>> flat, bent = (((0, 0), (0, 0)), ((0, 1), (0, 0))), (((0, 0), (1, 0)), ((1, 0), (0, 1)))
    >>> takes(flat), takes(bent), is_take(flat, ((0, 0),)), is_take(bent, ((0, 0),)), is_take(bent, ((0, 0), (1, 0)))
    ([(), ((1, 0),)], [(), ((0, 0),)], False, True, True)
    >>> taken(bent, ((0, 0),)), left_floor(bent, ((0, 0),)), left_floor(flat, ()) == slab
    ((((1, 0), (0, 1)),), ((1, 0), (2, 0), (2, 1)), True)
    >>> first_take(bent, (2, 1)), first_take(flat, (2, 1)), first_take(flat, (0, 0))
    (((0, 0), (1, 0)), ((1, 0),), ((0, 0), (1, 0)))
    >>> is_take(bent, [(0, 0)]), is_take(bent, ((0, 0), (0, 0))), is_take(bent, ((2, 0),)), is_take(bent, ())
    (False, False, False, True)
    >>> taken(flat, ((0, 0),))
    raises Unfit()
    >>> left_floor(flat, ((0, 0), (1, 0)))
    raises CanNot()
    >>> first_take(flat, (3, 0))
    raises NoCell(cell=(3, 0))
"""

POINT_19 = """
    >>> left, right = ((0, 0), (0, 1)), ((1, 0), (1, 1))
    >>> joined(left, right), can_join(left, left), can_join(((0, 0),), ((1, 1),)), can_join(left, ((1, 2),))
    (((0, 0), (0, 1), (1, 0), (1, 1)), False, False, False)
    >>> upright = laid_together((((0, 0), (1,)),), (((1, 0), (1,)), ((2, 0), (1,))))
    >>> upright, cuts(upright)
    ((((0, 0), (1,)), ((1, 0), (1,)), ((2, 0), (1,))), [((0, 0),), ((0, 0), (1, 0))])
    >>> parted(upright, ((0, 0), (1, 0)))
    ((((0, 0), (1,)), ((1, 0), (1,))), (((2, 0), (1,)),))
    >>> is_cut(upright, ((1, 0),)), is_cut(upright, ()), is_cut(upright, [(0, 0)])
    (False, False, False)
    >>> parted(upright, ((1, 0),))
    raises Unfit()
    >>> laid_together((((0, 0), (1,)),), (((1, 0), (1, 1)),))
    raises Unfit()
"""

POINT_20 = """
    >>> is_so(("can", slab, 2)), is_so(("can", slab, 4)), is_so(("sums", slab, 3, (0,))), is_claim(("sums", slab, 3, ()))
    (True, False, True, False)
    >>> is_so(("ahead", slab, 2, (0, 0), (2, 0))), is_so(("ahead", slab, 2, (0, 0), (1, 0))), is_so(("ahead", slab, 2, (2, 0), (0, 0)))
    (True, False, False)
    >>> is_reason_for(("can", slab, 2), upright), is_paper_against(("ahead", slab, 2, (0, 0), (1, 0)), upright)
    (True, False)
    >>> flatter = (((0, 0), (1,)), ((1, 0), (0,)), ((1, 1), (0,)))
    >>> is_so(("turns", upright, flatter, 0)), paper_against(("turns", upright, flatter, 0)), is_so(("turns", upright, flatter, 1))
    (False, (((1, 0), (2, 0)),), True)
    >>> first_fallen((("can", slab, 2), ("can", slab, 5))), is_claim(("can", slab, 0)), is_claim(("can", [(0, 0)], 1))
    (1, False, False)
"""

POINT_21 = r"""
    >>> ell = ((0, 0), (0, 1), (1, 0))
    >>> floor_text(ell), floor_text(((-1, 5), (0, 5))), read_floor("at 2 -1\n##\n#.") == ((2, -1), (2, 0), (3, 0))
    ('at 0 0\n#.\n##\n', 'at -1 5\n##\n', True)
    >>> laying_text((((0, 0), (1,)), ((1, 0), (1,)))), read_laying("stair 0.0 -\nstair 0.1 -\n")
    ('stair 0.0 u\nstair 1.0 u\n', (((0, 0), ()), ((0, 1), ())))
    >>> plan_text((((0, 0), (1, 0)), ((-2, 1), (0, 0)))), read_plan("turn 0.0 1.12"), row_name((0, 2, -1)), row_read("3,3"), row_read("3,,3")
    ('turn 0.0 1.0\nturn -2.1 0.0\n', (((0, 0), (1, 12)),), '0,2,-1', (3, 3), None)
    >>> read_floor("at 0 0\n##\n#")
    raises BadLine(number=2)
    >>> read_floor("at 0 0\n###\n#.#\n###")
    raises Unfit()
    >>> read_laying("stair 1.0 u\nstair 0.0 u")
    raises BadLine(number=1)
"""

POINT_22 = """
    >>> upright = (((0, 0), (1,)), ((1, 0), (1,)), ((2, 0), (1,)))
    >>> desk = Board(upright)
    >>> desk.turns_now(), desk.turn(((0, 0), (1, 0))), desk.laying(), desk.turns_now()
    ((((0, 0), (1, 0)), ((1, 0), (2, 0))), None, (((0, 0), (0,)), ((0, 1), (0,)), ((2, 0), (1,))), (((1, 0), (0, 0)),))
    >>> mate, right = desk.twin(), (((0, 0), (1,)), ((1, 0), (0,)), ((1, 1), (0,)))
    >>> desk.back_to(right), desk.laying() == right, desk.plan(), desk.apart_now(), desk == mate
    (2, True, (((0, 0), (1, 0)), ((1, 0), (0, 0)), ((1, 0), (2, 0))), 1, False)
    >>> desk.undo(), desk == mate, desk.undo(), desk.plan(), desk.redo(), desk.could(((1, 0), (2, 0)))
    ('back_to', True, 'turn', (), 'turn', False)
    >>> desk.follow((((1, 0), (0, 0)), ((1, 0), (2, 0)))), desk.laying() == right, desk == Board(upright)
    (None, True, False)
    >>> desk.turn(((0, 0), (5, 0)))
    raises NoName(name=(5, 0))
    >>> desk.turn(((0, 0), (2, 0)))
    raises CanNot()
    >>> desk.follow((((2, 0), (1, 0)), ((0, 0), (2, 0))))
    raises Broken(place=1)
    >>> Board(upright).redo()
    raises NothingDone()
"""

# The files whose words the examples use, and the points in the order in which they stand.
FILES = ("cells", "spaces", "layings", "counts", "rims", "runs", "told", "orders", "peels", "cans", "turns", "shapes", "alls",
         "sures", "takes", "joins", "judge", "texts", "board")
POINTS = (POINT_4, POINT_5, POINT_6, POINT_7, POINT_8, POINT_9, POINT_10, POINT_11, POINT_12, POINT_13, POINT_14, POINT_15,
          POINT_16, POINT_17, POINT_18, POINT_19, POINT_20, POINT_21, POINT_22)


class Examples(unittest.TestCase):
    def test_examples(self):
        # Names go on from point to point, as the document's do.
        space = {}
        for file in FILES:
            module = importlib.import_module(f"stairlaid.{file}")
            space.update({name: worth for name, worth in vars(module).items() if not name.startswith("_")})
        for text in POINTS:
            check(self, text, space)


if __name__ == "__main__":
    unittest.main()
