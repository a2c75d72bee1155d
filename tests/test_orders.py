"""Point [11]: who is AHEAD, ORDERS and free pairs, over all small FLOORS and at the edges."""

import unittest
from itertools import product

from stairlaid.counts import names_of
from stairlaid.errors import CanNot, NoName, Unfit
from stairlaid.orders import ahead, free_pairs, is_order, laying_of, order_of
from tests.made import (block_of, floors, laid, layings_plainly, named_plainly, order_plainly, ways_plainly, wild)

SLAB, CORNER, BLOCK, BENCH = block_of(3, 2), ((0, 0), (0, 1), (1, 0)), block_of(3, 3), block_of(4, 3)
KNOT = ((0, 1), (1, 1), (2, 0), (2, 1), (2, 2), (3, 0))
STRAIT = ((0, 1), (0, 2), (1, 1), (2, 1), (3, 0), (3, 1))
FLAT = (((0, 0), (0, 0)), ((0, 1), (0, 0)), ((0, 2), (0, 0)))
STRIP = (*FLAT, ((3, 0), (1, 1)))
ORDER = (((0, 0), (2, 0)), ((1, 0), (0, 0)), ((1, 0), (2, 0)))


def some(most, many):
    """(FLOOR, size, all LAYINGS) of small FLOORS and greater ones that can be laid."""
    asked = [(floor, size) for floor in floors(most) for size in (1, 2, 3, 4, 5)]
    asked += [(floor, size) for size in (2, 3, 4) for floor in wild(many, size)]
    told = [(floor, size, layings_plainly(floor, size)) for floor, size in asked]
    return [row for row in told if row[2]]


def neighbours(floor, size):
    """The pairs of unlike NAMES, the lesser one first, with feet at most size apart."""
    called = names_of(floor, size)
    return [(name, other) for name in called for other in called
            if name < other and other[0] - name[0] <= size]


def turned_about(order, at):
    return tuple(sorted([*order[:at], order[at][::-1], *order[at + 1:]]))


class Ahead(unittest.TestCase):
    def test_all_layings(self):
        for _, size, laying in laid(6):
            order, called = order_plainly(laying), list(named_plainly(laying))
            for name in called:
                for other in called:
                    told = 1 if (name, other) in order else -1 if (other, name) in order else 0
                    self.assertEqual(ahead(laying, name, other), told)
                    near = name != other and abs(name[0] - other[0]) <= size
                    self.assertEqual(told != 0, near)

    def test_just_size_apart_and_more(self):
        self.assertEqual((ahead(STRIP, (0, 0), (3, 0)), ahead(STRIP, (3, 0), (0, 0))), (1, -1))
        row = tuple([((x, 0), (0,)) for x in (0, 2, 4)])
        self.assertEqual((ahead(row, (0, 0), (2, 0)), ahead(row, (2, 0), (0, 0))), (1, -1))
        self.assertEqual((ahead(row, (0, 0), (4, 0)), ahead(row, (4, 0), (0, 0))), (0, 0))
        column = tuple([((0, y), (1,)) for y in (0, 2, 4)])
        self.assertEqual((ahead(column, (0, 0), (2, 0)), ahead(column, (2, 0), (0, 0))), (-1, 1))

    def test_one_and_the_same(self):
        self.assertEqual((ahead(FLAT, (1, 0), (1, 0)), ahead((((5, 5), ()),), (10, 0), (10, 0))), (0, 0))

    def test_size_1(self):
        tiles = tuple([(cell, ()) for cell in SLAB])
        self.assertEqual((ahead(tiles, (1, 0), (1, 1)), ahead(tiles, (1, 1), (0, 0)), ahead(tiles, (0, 0), (2, 0))),
                         (1, -1, 0))

    def test_no_name(self):
        for name, other, told in (((3, 0), (0, 0), (3, 0)), ((0, 0), (3, 0), (3, 0)), ((0, 1), (9, 9), (0, 1)),
                                  ((0, -1), None, (0, -1)), ((0, 0), (True, 0), (True, 0)), ([7, 7], (0, 0), (7, 7)),
                                  ((0,), (0, 0), (0,)), (None, (0, 0), None)):
            with self.assertRaises(NoName) as caught:
                ahead(FLAT, name, other)
            self.assertEqual(repr(caught.exception.name), repr(told))

    def test_wrong(self):
        for wrong in ((), None, True, "ab", FLAT[::-1], (((0, 0), (0,)), ((0, 0), (1,))), (FLAT[0], FLAT[2])):
            for function in (order_of, lambda laying: ahead(laying, (9, 9), (9, 9))):
                with self.assertRaises(Unfit):
                    function(wrong)


class Orders(unittest.TestCase):
    def test_of_all_layings(self):
        for floor, size, layings in some(6, 60):
            told = [order_of(laying) for laying in layings]
            self.assertEqual(len(set(told)), len(layings))
            for laying, order in zip(layings, told):
                self.assertEqual(order, tuple(sorted(order_plainly(laying))))
                self.assertFalse(any([name == other for name, other in ways_plainly(order)]))
                self.assertIs(is_order(floor, size, order), True)
                self.assertEqual(laying_of(floor, size, order), laying)
                self.assertEqual(sorted([tuple(sorted(pair)) for pair in order]), neighbours(floor, size))

    def test_each_way_to_put_the_pairs(self):
        many = 0
        for floor, size, layings in some(6, 20):
            asked, orders = neighbours(floor, size), [order_of(laying) for laying in layings]
            for about in product((False, True), repeat=len(asked)) if len(asked) < 7 else ():
                thing = tuple(sorted([pair[::-1] if turn else pair for pair, turn in zip(asked, about)]))
                many += 1
                self.assertIs(is_order(floor, size, thing), thing in orders, (floor, size, thing))
                if thing not in orders:
                    with self.assertRaises(Unfit):
                        laying_of(floor, size, thing)
        self.assertGreater(many, 1000)

    def test_bent_orders(self):
        order = order_of(STRIP)
        floor = BENCH
        self.assertIs(is_order(floor, 3, order), True)
        told = order.index(((0, 0), (3, 0)))
        bent = [order[:-1], order[1:], (*order, ((3, 0), (3, 0))), (*order, ((3, 0), (4, 0))), order[::-1],
                order[1:] + order[:1], (order[0], *order), turned_about(order, told),
                tuple(sorted([*order, order[0][::-1]])), list(order), ([*order[0]], *order[1:]),
                (([*order[0][0]], order[0][1]), *order[1:]), (), None, True, 0, "ab", (None,), ((),), order[0],
                tuple([(*pair, pair[0]) for pair in order]), tuple([pair[:1] for pair in order])]
        for thing in bent:
            self.assertIs(is_order(floor, 3, thing), False, thing)
        for given in (order[:-1], turned_about(order, told), order[::-1], ()):
            with self.assertRaises(Unfit):
                laying_of(floor, 3, given)
        for given in (list(order), [[list(name) for name in pair] for pair in order]):
            self.assertEqual(laying_of(floor, 3, given), STRIP)

    def test_bools_are_no_numbers(self):
        order = order_of(FLAT)
        self.assertEqual(order, (((1, 0), (0, 0)), ((2, 0), (0, 0)), ((2, 0), (1, 0))))
        for bent in (((True, 0), (0, 0)), ((1, False), (0, 0)), ((1, 0), (False, 0)), ((1, 0), (0, False))):
            self.assertIs(is_order(BLOCK, 3, (bent, *order[1:])), False)

    def test_a_ring(self):
        for thing in ((((0, 0), (1, 0)), ((1, 0), (2, 0)), ((2, 0), (0, 0))),
                      (((0, 0), (2, 0)), ((1, 0), (0, 0)), ((2, 0), (1, 0)))):
            self.assertIs(is_order(BLOCK, 3, thing), False)
            with self.assertRaises(Unfit):
                laying_of(BLOCK, 3, thing)

    def test_one_stair_and_size_1(self):
        self.assertEqual((order_of((((5, 5), ()),)), is_order(((5, 5),), 1, ()), laying_of(((5, 5),), 1, ())),
                         ((), True, (((5, 5), ()),)))
        tiles = tuple([(cell, ()) for cell in BLOCK])
        self.assertEqual(laying_of(BLOCK, 1, order_of(tiles)), tiles)

    def test_can_not(self):
        for floor, size in ((CORNER, 3), (SLAB, 4), (STRAIT, 3), (KNOT, 3)):
            for function in (laying_of, is_order):
                for given in ((), ORDER):
                    with self.assertRaises(CanNot):
                        function(floor, size, given)
            with self.assertRaises(CanNot):
                free_pairs(floor, size)
        for thing in (None, True, [], "ab"):
            with self.assertRaises(CanNot):
                is_order(KNOT, 3, thing)

    def test_wrong(self):
        for floor, size in ((SLAB, 0), (SLAB, None), (SLAB, True), ((), 2), (None, 2), (SLAB[::-1], 2),
                            (((0, 0), (1, 1)), 1), (CORNER, 0), (KNOT[::-1], 3), ("ab", 0), (KNOT, -1)):
            for function in (free_pairs, lambda floor, size: laying_of(floor, size, ()),
                             lambda floor, size: is_order(floor, size, None)):
                with self.assertRaises(Unfit, msg=(floor, size)):
                    function(floor, size)


class FreePairs(unittest.TestCase):
    def test_who_lies_otherwise_in_some_laying(self):
        for floor, size, layings in some(6, 60):
            orders = [order_plainly(laying) for laying in layings]
            free = [pair for pair in neighbours(floor, size)
                    if len({pair in order for order in orders}) == 2]
            self.assertEqual(free_pairs(floor, size), tuple(free))
            for name, other in free:
                self.assertIn(other[0] - name[0], range(1, size))

    def test_none(self):
        self.assertEqual((free_pairs(((5, 5),), 1), free_pairs(BLOCK, 1), free_pairs(block_of(4, 1), 2)), ((), (), ()))


class GreatFloors(unittest.TestCase):
    def test_as_great_as_the_bounds(self):
        for size in range(1, 7):
            floor = block_of(8, 5) if size in (1, 2, 4, 5) else block_of(6, 6)
            flat = laying_of(floor, size, order_of(flat_laying(floor, size)))
            self.assertEqual(flat, flat_laying(floor, size))
            self.assertEqual(len(free_pairs(floor, size)) > 0, size > 1)


def flat_laying(floor, size):
    """All STAIRS level, or all of them upright, as it fits."""
    level = tuple([((x, y), (0,) * (size - 1)) for x, y in floor if x % size == 0])
    upright = tuple([((x, y), (1,) * (size - 1)) for x, y in floor if y % size == 0])
    return level if (max(floor)[0] + 1) % size == 0 else upright


if __name__ == "__main__":
    unittest.main()
