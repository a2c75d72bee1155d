"""Point [16]: all LAYINGS, over all small FLOORS, greater ones by chance, and at the edges."""

import unittest
from itertools import product

from stairlaid.alls import all_layings, laying_at, many, many_by_rows, place_of
from stairlaid.counts import names_of
from stairlaid.errors import TooMany, Unfit
from stairlaid.layings import is_laying
from stairlaid.orders import free_pairs
from stairlaid.peels import laid_by, rows, rows_alike
from stairlaid.told import told_pairs
from tests.made import (BARRED, JUST_400, JUST_401, NO_FLOORS, NO_LAYINGS, NO_SIZES, THIRTEEN_FREE, TWELVE_FREE,
                        block_of, families, laid_ones, place, ways_plainly)

SLAB, BENCH, CORNER, PANE = block_of(3, 2), block_of(4, 3), ((0, 0), (0, 1), (1, 0)), block_of(7, 4)
FLAT, BENT = (((0, 0), (0, 0)), ((0, 1), (0, 0))), (((0, 0), (1, 0)), ((1, 0), (0, 1)))


def orders_plainly(told, free):
    """How many ways there are to tell all free pairs without a ring."""
    found = 0
    for ways in product((0, 1), repeat=len(free)):
        pairs = set(told) | {pair[::-1] if way else pair for pair, way in zip(free, ways)}
        found += all([first != last for first, last in ways_plainly(pairs)])
    return found


def as_one(pairs, name, other):
    """The pairs, both NAMES being one."""
    return {tuple([name if own == other else own for own in pair]) for pair in pairs}


class AllLayings(unittest.TestCase):
    def test_as_a_plain_search_tells(self):
        numbers = set()
        for floor, size, layings in families(6, 12):
            found = all_layings(floor, size)
            self.assertEqual((type(found), found), (list, list(layings)))
            numbers.add(len(found))
        self.assertGreater(len(numbers), 10)

    def test_three_ways_to_count(self):
        for floor, size, layings in families(6, 12):
            self.assertEqual(many_by_rows(floor, size), len(layings))
            self.assertEqual(many(floor, size), len(layings))
        for wide, told in enumerate((1, 2, 3, 5, 8, 13, 21, 34, 55, 89, 144, 233, 377), 1):
            self.assertEqual((many(block_of(wide, 2), 2), many_by_rows(block_of(wide, 2), 2)), (told, told))

    def test_the_least_cell_begins_a_stair(self):
        for floor, _, layings in laid_ones(6, 12):
            least = min(floor, key=lambda cell: (sum(cell), place(cell)))
            for laying in layings:
                self.assertIn(least, [cell for cell, _ in laying])

    def test_blocks(self):
        self.assertEqual([len(all_layings(block_of(wide, 3), 3)) for wide in range(1, 7)], [1, 2, 6, 12, 26, 61])

    def test_one_cell_and_size_1(self):
        self.assertEqual((all_layings(((5, 2),), 1), many(((5, 2),), 1), many_by_rows(((5, 2),), 1)),
                         ([(((5, 2), ()),)], 1, 1))
        self.assertEqual(all_layings(((5, 2),), 2), [])
        great = block_of(8, 5)
        self.assertEqual(all_layings(great, 1), [tuple([(cell, ()) for cell in great])])
        self.assertEqual((many(great, 1), many_by_rows(great, 1)), (1, 1))

    def test_none(self):
        for floor, size in (*BARRED, (PANE, 5), (block_of(8, 5), 6), (block_of(13, 3), 2)):
            self.assertEqual((all_layings(floor, size), many(floor, size), many_by_rows(floor, size)), ([], 0, 0))
            for number in (0, -1, 1):
                with self.assertRaises(Unfit):
                    laying_at(floor, size, number)

    def test_lists_are_new(self):
        found = all_layings(SLAB, 3)
        found.clear()
        self.assertEqual(all_layings(SLAB, 3), [FLAT, BENT])

    def test_just_400_and_more(self):
        found = all_layings(JUST_400, 3)
        self.assertEqual((len(found), many_by_rows(JUST_400, 3)), (400, 400))
        self.assertTrue(all([low < high for low, high in zip(found, found[1:])]))
        self.assertTrue(all([is_laying(JUST_400, 3, laying) for laying in found]))
        self.assertEqual([(place_of(found[number]), laying_at(JUST_400, 3, number)) for number in (0, 399)],
                         [(number, found[number]) for number in (0, 399)])
        with self.assertRaises(Unfit):
            laying_at(JUST_400, 3, 400)
        for floor, size in ((JUST_401, 2), (PANE, 2), (TWELVE_FREE, 4), (block_of(8, 5), 2), (block_of(6, 6), 3)):
            for function in (all_layings, many_by_rows):
                with self.assertRaises(TooMany):
                    function(floor, size)
            for number in (0, -1, 400, 401, 10 ** 6):
                with self.assertRaises(TooMany):
                    laying_at(floor, size, number)
        with self.assertRaises(TooMany):
            place_of(tuple([((x, y), (0,)) for x in range(0, 20, 2) for y in range(2)]))

    def test_wrong(self):
        for function in (all_layings, many, many_by_rows, lambda floor, size: laying_at(floor, size, -1)):
            for wrong in NO_FLOORS:
                with self.assertRaises(Unfit):
                    function(wrong, 3)
            for wrong in NO_SIZES:
                for floor in (CORNER, PANE):
                    with self.assertRaises(Unfit):
                        function(floor, wrong)
        for wrong in NO_LAYINGS:
            with self.assertRaises(Unfit):
                place_of(wrong)


class Many(unittest.TestCase):
    def test_twelve_and_thirteen_free_pairs(self):
        self.assertEqual((len(free_pairs(TWELVE_FREE, 4)), many(TWELVE_FREE, 4)), (12, 576))
        self.assertEqual(len(free_pairs(THIRTEEN_FREE, 3)), 13)
        with self.assertRaises(TooMany):
            many(THIRTEEN_FREE, 3)
        with self.assertRaises(TooMany):
            many(PANE, 2)

    def test_the_sum_of_two(self):
        seen = 0
        for floor, size, layings in laid_ones(6, 12, least=2):
            told, free = told_pairs(floor, size), free_pairs(floor, size)
            if len(free) <= 6:
                self.assertEqual(orders_plainly(told, free), len(layings))
                for name, other in free:
                    left = [pair for pair in free if pair != (name, other)]
                    without = orders_plainly(told, left)
                    # Both being one NAME, what both are asked for with is asked for once.
                    pairs = as_one(told, name, other)
                    ways = ways_plainly(pairs)
                    asked = {tuple(sorted(pair)) for pair in as_one(left, name, other)}
                    open_ones = [pair for pair in asked if pair not in ways and pair[::-1] not in ways]
                    self.assertEqual(without + orders_plainly(pairs, sorted(open_ones)), len(layings))
                    seen += 1
        self.assertGreater(seen, 50)


class ByRows(unittest.TestCase):
    def test_exchanges_lead_from_row_to_row_of_one_laying(self):
        for floor, size, layings in laid_ones(6, 6, least=2):
            told = [(row, laying) for laying in layings[:6] for row in rows(laying)[:8]]
            for row, laying in told:
                self.assertEqual(laid_by(floor, size, row), laying)
                for other, its in told[::3]:
                    self.assertIs(rows_alike(size, row, other), laying == its)

    def test_by_all_rows(self):
        # All ROWS of a FLOOR, and those of them that no one comes of that is less.
        for floor, size, layings in laid_ones(6, 4, sizes=(1, 2, 3)):
            if len(names_of(floor, size)) <= 6:
                told = [row for laying in layings for row in rows(laying)]
                least = [row for row in told if not any([own < row and rows_alike(size, row, own) for own in told])]
                self.assertEqual((len(set(told)), many_by_rows(floor, size)), (len(told), len(least)))


class ByNumber(unittest.TestCase):
    def test_there_and_back(self):
        for floor, size, layings in families(6, 12):
            for number, laying in list(enumerate(layings))[:3]:
                self.assertEqual((place_of(laying), laying_at(floor, size, number)), (number, laying))
            if layings:
                last = len(layings) - 1
                self.assertEqual((place_of(layings[-1]), laying_at(floor, size, last)), (last, layings[-1]))
            for number in (-1, -len(layings) or 7, len(layings)):
                with self.assertRaises(Unfit):
                    laying_at(floor, size, number)
        for number in (2, 3, 10 ** 6, -2, -3, -10 ** 6, True, False, None, 1.0):
            with self.assertRaises(Unfit):
                laying_at(SLAB, 3, number)

    def test_lists(self):
        self.assertEqual((place_of([[[0, 0], [1, 0]], [[1, 0], [0, 1]]]), laying_at([list(cell) for cell in SLAB], 3, 1)),
                         (1, BENT))


if __name__ == "__main__":
    unittest.main()
