"""Point [7]: COUNTS and NAMES, over all small FLOORS and at the edges."""

import unittest
from itertools import combinations

from stairlaid.counts import count, count_bar, counts, names_of
from stairlaid.errors import CanNot, Unfit
from stairlaid.layings import foot_of
from tests.made import block_of, counts_plainly, floors, is_floor_plainly, laid

SLAB, CORNER, BLOCK = block_of(3, 2), ((0, 0), (0, 1), (1, 0)), block_of(3, 3)
FUNCTIONS = (counts, names_of, count_bar, lambda floor, size: count(floor, size, 0))


def bars_plainly(floor, size):
    last = max([x + y for x, y in floor])
    return [foot for foot, many in sorted(counts_plainly(floor, size).items())
            if many < 0 or (many > 0 and foot + size - 1 > last)]


def half_turned(floor):
    return tuple(sorted([(-x, -y) for x, y in floor]))


def mirrored(floor):
    return tuple(sorted([(y, x) for x, y in floor]))


class Counts(unittest.TestCase):
    def test_all_floors(self):
        for floor in floors(7):
            for size in range(1, 8):
                told = counts_plainly(floor, size)
                self.assertEqual(counts(floor, size), tuple([own for own in sorted(told.items()) if own[1]]))
                for foot in range(min(told) - 8, max(told) + 9):
                    self.assertEqual(count(floor, size, foot), told.get(foot, 0), (floor, size, foot))

    def test_bars(self):
        for floor in floors(7):
            for size in range(1, 8):
                bars = bars_plainly(floor, size)
                if bars:
                    self.assertEqual(count_bar(floor, size), bars[0])
                    with self.assertRaises(CanNot):
                        names_of(floor, size)
                else:
                    self.assertIsNone(count_bar(floor, size))
                    self.assertEqual(names_of(floor, size), tuple([
                        (foot, k) for foot, many in sorted(counts_plainly(floor, size).items()) for k in range(many)]))

    def test_below_0_without_left_over_ahead(self):
        # Its diagonals have 2, 1, 1, 1, 1 CELLS; foot 2 ends on diagonal 4, which is not the last one.
        floor = ((0, 1), (1, 0), (1, 1), (1, 2), (1, 3), (1, 4))
        self.assertEqual(counts(floor, 3), ((1, 2), (2, -1), (4, 2), (5, -1)))
        self.assertEqual(count_bar(floor, 3), 2)
        self.assertEqual(count(floor, 3, 2), -1)
        with self.assertRaises(CanNot):
            names_of(floor, 3)

    def test_left_over(self):
        # One CELL more than two STAIRS have, at the upper end; it alone bars.
        self.assertEqual(counts(block_of(5, 1), 2), ((0, 1), (2, 1), (4, 1)))
        self.assertEqual(count_bar(block_of(5, 1), 2), 4)
        self.assertIsNone(count_bar(block_of(4, 1), 2))
        # Foot 3 by size 2 ends on diagonal 4, the last one: it is not left over.
        self.assertIsNone(count_bar(((0, 0), (1, 0), (2, 0), (3, 0)), 2))

    def test_great_sizes(self):
        self.assertEqual(counts(SLAB, 5), ((0, 1), (1, 1), (3, -1)))
        self.assertEqual(counts(SLAB, 10 ** 6), counts(SLAB, 5))
        self.assertEqual(count_bar(SLAB, 10 ** 6), 0)

    def test_far_away(self):
        floor = ((10 ** 6, 10 ** 6), (10 ** 6, 10 ** 6 + 1))
        self.assertEqual(counts(floor, 2), ((2 * 10 ** 6, 1),))
        self.assertEqual(count(floor, 2, -2 * 10 ** 6), 0)

    def test_one_cell(self):
        self.assertEqual(counts(((5, -2),), 1), ((3, 1),))
        self.assertEqual(names_of(((5, -2),), 1), ((3, 0),))
        self.assertEqual(count_bar(((5, -2),), 2), 3)

    def test_wrong(self):
        for floor, size in ((SLAB, 0), (SLAB, -3), (SLAB, None), (SLAB, True), (SLAB, "2"), (SLAB, (2,)), ((), 1),
                            (((0, 0), (1, 1)), 1), (None, 1), (SLAB[::-1], 3), (((0, 0), (0, 0)), 1), (None, 0),
                            # Ahead of CanNot: by size 3 a COUNT of CORNER bars.
                            (CORNER[::-1], 3), (CORNER, 0)):
            for function in FUNCTIONS:
                with self.assertRaises(Unfit, msg=(floor, size)):
                    function(floor, size)


class Guarantees(unittest.TestCase):
    def test_each_laying_has_as_many(self):
        for floor, size, laying in laid(7):
            feet = [foot_of(stair) for stair in laying]
            self.assertEqual(counts(floor, size), tuple([(foot, feet.count(foot)) for foot in sorted(set(feet))]))
            self.assertIsNone(count_bar(floor, size))

    def test_where_none_bars(self):
        for floor in floors(7):
            for size in range(1, 8):
                self.assertEqual(counts(mirrored(floor), size), counts(floor, size))
                if count_bar(floor, size) is None:
                    told = counts(floor, size)
                    self.assertEqual(len(floor), size * sum([many for _, many in told]))
                    self.assertEqual(counts(half_turned(floor), size),
                                     tuple(sorted([(-(foot + size - 1), many) for foot, many in told])))

    def test_two_floors_together(self):
        for floor in floors(6):
            for many in range(1, len(floor)):
                for part in combinations(floor, many):
                    rest = tuple([cell for cell in floor if cell not in part])
                    if is_floor_plainly(part) and is_floor_plainly(rest):
                        self.add_up(floor, part, rest)

    def add_up(self, floor, part, rest):
        for size in (1, 2, 3):
            if count_bar(part, size) is None and count_bar(rest, size) is None:
                for foot in range(-1, 12):
                    self.assertEqual(count(floor, size, foot), count(part, size, foot) + count(rest, size, foot))

    def test_size_1(self):
        for floor in floors(6):
            wide = [x + y for x, y in floor]
            self.assertEqual(counts(floor, 1), tuple([(foot, wide.count(foot)) for foot in sorted(set(wide))]))


if __name__ == "__main__":
    unittest.main()
