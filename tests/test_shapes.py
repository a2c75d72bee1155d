"""Point [15]: shapes and sums, over all LAYINGS of small FLOORS, greater ones by chance, and at the edges."""

import unittest
from itertools import product

from stairlaid.errors import CanNot, NoName, TooMany, Unfit
from stairlaid.shapes import (can_have, middles, middles_of, shape, shapes, shapes_behind, sums, sums_of, ups)
from stairlaid.turns import turned, turns
from tests.made import (BARRED, JUST_400, JUST_401, NO_FLOORS, NO_LAYINGS, NO_SIZES, block_of, cells_plainly, families,
                        laid_ones, place)

SLAB, CORNER, BLOCK = block_of(3, 2), ((0, 0), (0, 1), (1, 0)), block_of(3, 3)
BEDS, POSTS = tuple([((0, y), (0, 0)) for y in (0, 1, 2)]), tuple([((x, 0), (1, 1)) for x in (0, 1, 2)])
FLAT = (((0, 0), (0, 0)), ((0, 1), (0, 0)))


def shapes_plainly(laying):
    steps = [own for _, own in laying]
    return tuple([(own, steps.count(own)) for own in sorted(set(steps))])


def ups_plainly(laying, number):
    return [steps[number - 1] for _, steps in laying].count(1)


def sums_plainly(laying):
    size = len(laying[0][1]) + 1
    return tuple([ups_plainly(laying, i) - ups_plainly(laying, size - i) for i in range(1, 6) if i < size / 2])


def middles_plainly(laying):
    size, told = len(laying[0][1]) + 1, []
    for i in range(1, 7):
        if i <= (size + 1) / 2:
            ends = [place(cells_plainly(stair)[k - 1]) for stair in laying for k in (i, size + 1 - i)]
            told.append(sum(ends))
    return tuple(told)


def other_middles(size):
    """How many MIDDLES there are but for that of one CELL, which is told twice."""
    return size // 2


class Shapes(unittest.TestCase):
    def test_shape(self):
        for size in range(1, 8):
            for steps in product((0, 1), repeat=size - 1):
                self.assertEqual((shape(((3, -5), steps)), shape([[3, -5], list(steps)])), (steps, steps))
        for wrong in (*NO_LAYINGS, ((0, 0), (2,)), ((0, 0), (True,)), ((0, 0),), (0, 0, ())):
            with self.assertRaises(Unfit):
                shape(wrong)

    def test_shapes(self):
        kinds = set()
        for _, size, layings in families(6, 12):
            for laying in layings:
                told = shapes(laying)
                self.assertEqual(told, shapes_plainly(laying))
                self.assertEqual(sum([many for _, many in told]), len(laying))
                kinds.add((size, len(told)))
        self.assertGreater(len(kinds), 12)
        self.assertEqual(shapes((((5, 5), ()), ((5, 6), ()))), (((), 2),))

    def test_wrong(self):
        for wrong in NO_LAYINGS:
            for function in (shapes, sums, middles, lambda laying: ups(laying, 99),
                             lambda laying: shapes_behind(laying, ((9, 9), (9, 9)))):
                with self.assertRaises(Unfit):
                    function(wrong)


class Ups(unittest.TestCase):
    def test_all_layings(self):
        for _, size, layings in families(6, 12):
            for laying in layings:
                for number in range(1, size):
                    self.assertEqual(ups(laying, number), ups_plainly(laying, number))
                for number in (-size, -1, 0, size, size + 1, 10 ** 6, True, None):
                    with self.assertRaises(Unfit):
                        ups(laying, number)

    def test_no_steps(self):
        for number in (-1, 0, 1, 2):
            with self.assertRaises(Unfit):
                ups((((0, 0), ()),), number)

    def test_along_a_turn(self):
        seen = set()
        for _, size, layings in laid_ones(6, 12, least=2):
            for laying in layings:
                for pair in turns(laying):
                    apart, behind = abs(pair[0][0] - pair[1][0]), turned(laying, pair)
                    changes = [ups(behind, i) - ups(laying, i) for i in range(1, size)]
                    for i, change in enumerate(changes, 1):
                        self.assertEqual(change, changes[size - i - 1])
                        told = 0 if i not in (apart, size - apart) else 2 if 2 * i == size else 1
                        self.assertEqual(abs(change), told)
                    seen.add((size, apart))
        self.assertEqual(seen, {(size, apart) for size in range(2, 7) for apart in range(1, size)})


class Sums(unittest.TestCase):
    def test_all_layings(self):
        for floor, size, layings in families(6, 12):
            if layings:
                same = (sums_of(floor, size), middles_of(floor, size))
                for laying in layings:
                    self.assertEqual((sums(laying), middles(laying)), (sums_plainly(laying), middles_plainly(laying)))
                    self.assertEqual((sums(laying), middles(laying)), same)
            else:
                for function in (sums_of, middles_of):
                    with self.assertRaises(CanNot):
                        function(floor, size)

    def test_how_they_hang_together(self):
        unlike = set()
        for floor, size, layings in laid_ones(6, 12):
            told, its = sums(layings[0]), middles(layings[0])
            self.assertEqual(([len(told), len(its)]), [(size + 1) // 2 - 1, (size + 1) // 2])
            for i, own in enumerate(told):
                self.assertEqual(its[i] - its[i + 1], 2 * own)
            by_half = [own if i < other_middles(size) else own // 2 for i, own in enumerate(its)]
            self.assertEqual(sum(by_half), sum([place(cell) for cell in floor]))
            unlike.add((size, told))
        self.assertGreater(len(unlike), 12)

    def test_one_cell_and_size_1(self):
        self.assertEqual((sums((((5, 2), ()),)), middles((((5, 2), ()),))), ((), (6,)))
        self.assertEqual((sums_of(BLOCK, 1), middles_of(SLAB, 1)), ((), (6,)))

    def test_more_than_400_layings(self):
        wide = block_of(20, 2)
        self.assertEqual((sums_of(wide, 2), middles_of(wide, 2)), ((), (sum([place(cell) for cell in wide]),)))

    def test_barred(self):
        for floor, size in BARRED:
            for function in (sums_of, middles_of):
                with self.assertRaises(CanNot):
                    function(floor, size)

    def test_wrong(self):
        for function in (sums_of, middles_of):
            for wrong in NO_FLOORS:
                with self.assertRaises(Unfit):
                    function(wrong, 3)
            for wrong in NO_SIZES:
                with self.assertRaises(Unfit):
                    function(CORNER, wrong)


class Behind(unittest.TestCase):
    def test_all_turns(self):
        for _, _, layings in laid_ones(6, 12, least=2):
            for laying in layings:
                for pair in turns(laying):
                    self.assertEqual(shapes_behind(laying, pair), shapes_plainly(turned(laying, pair)))
                    with self.assertRaises(CanNot):
                        shapes_behind(laying, pair[::-1])

    def test_no_name_ahead_of_no_turn(self):
        for pair, told in ((((2, 0), (3, 0)), (3, 0)), (((9, 9), (3, 0)), (9, 9)), (((0, 0), (True, 0)), (True, 0))):
            with self.assertRaises(NoName) as caught:
                shapes_behind(BEDS, pair)
            self.assertEqual(repr(caught.exception.name), repr(told))
        for pair in (((2, 0), (0, 0)), ((0, 0), (0, 0)), ((0, 0), (1, 0))):
            with self.assertRaises(CanNot):
                shapes_behind(BEDS, pair)


class CanHave(unittest.TestCase):
    def test_all_layings(self):
        for floor, size, layings in families(5, 6):
            told = {shapes_plainly(laying) for laying in layings}
            for own in sorted(told)[:3]:
                self.assertIs(can_have(floor, size, own), True)
                (steps, many), *rest = own
                for other in (((steps, many + 1), *rest), tuple(rest), own + ((steps + (1,), 1),)):
                    self.assertIs(can_have(floor, size, other), other in told)
            self.assertIs(can_have(floor, size, ()), False)

    def test_shapes_of_another_size(self):
        self.assertIs(can_have(SLAB, 3, (((0,), 3),)), False)
        self.assertIs(can_have(SLAB, 3, (((0,), 1), ((0, 0), 2))), False)
        self.assertIs(can_have(BLOCK, 1, (((), 9),)), True)
        self.assertIs(can_have(BLOCK, 1, (((), 8),)), False)
        self.assertIs(can_have(BLOCK, 1, (((0, 0), 3),)), False)

    def test_as_many_stairs_but_no_laying(self):
        # As many of each STEP as some LAYING has, but in no LAYING as these.
        self.assertIs(can_have(SLAB, 3, (((0, 0), 1), ((1, 1), 1))), False)
        self.assertIs(can_have(SLAB, 3, (((0, 1), 1), ((1, 0), 1))), True)

    def test_no_laying(self):
        for floor, size in BARRED:
            for own in ((), (((0, 0), 1),), (((0, 0), 2),), (((0, 1), 1), ((1, 0), 1))):
                self.assertIs(can_have(floor, size, own), False)

    def test_lists(self):
        self.assertIs(can_have(BLOCK, 3, [[[0, 0], 3]]), True)
        self.assertIs(can_have([list(cell) for cell in BLOCK], 3, [[[0, 0], 2]]), False)
        self.assertIs(can_have(BLOCK, 3, []), False)

    def test_just_400_and_more(self):
        self.assertIs(can_have(JUST_400, 3, shapes(tuple([((0, y), (0, 0)) for y in range(5)]
                                                         + [((3 + x, 3), (1, 1)) for x in range(4)]))), True)
        self.assertIs(can_have(JUST_400, 3, ()), False)
        for own in ((), (((0,), 14),), (((0, 0), 1),)):
            with self.assertRaises(TooMany):
                can_have(JUST_401, 2, own)

    def test_wrong(self):
        for wrong in NO_FLOORS:
            with self.assertRaises(Unfit):
                can_have(wrong, 3, ())
        for wrong in NO_SIZES:
            for floor in (CORNER, JUST_401):
                with self.assertRaises(Unfit):
                    can_have(floor, wrong, ())


if __name__ == "__main__":
    unittest.main()
