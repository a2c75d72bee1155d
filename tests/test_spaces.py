"""Point [5]: shifts, mirrors and half turns, over all small FLOORS and LAYINGS."""

import unittest
from itertools import product

from stairlaid.counts import count_bar, counts
from stairlaid.errors import Unfit
from stairlaid.layings import foot_of, is_laying, size_of
from stairlaid.spaces import (alike, half_turned, laying_half_turned, laying_mirrored, laying_shifted, mirrored,
                              shifted, stair_half_turned, stair_mirrored, stair_shifted)
from tests.made import (ahead_plainly, block_of, cells_plainly, floors, laid, layings_plainly, moved, place,
                        to_corner)

SLAB, CORNER = block_of(3, 2), ((0, 0), (0, 1), (1, 0))
STAIR = ((2, -1), (0, 1, 1, 0, 1))


def by_cells(stair, change):
    """The CELLS of a STAIR, changed one by one, by diagonals."""
    return sorted([change(cell) for cell in cells_plainly(stair)], key=sum)


def mirror(cell):
    return (cell[1], cell[0])


def half_turn(cell):
    return (-cell[0], -cell[1])


class Floors(unittest.TestCase):
    def test_all_floors(self):
        for floor in floors(6):
            self.assertEqual(mirrored(floor), tuple(sorted([mirror(cell) for cell in floor])))
            self.assertEqual(half_turned(floor), tuple(sorted([half_turn(cell) for cell in floor])))
            for by in ((0, 0), (3, -2), (-10 ** 6, 10 ** 6)):
                self.assertEqual(shifted(floor, by), moved(floor, by))

    def test_one_cell(self):
        self.assertEqual((shifted(((5, -2),), (1, 1)), mirrored(((5, -2),)), half_turned(((5, -2),))),
                         (((6, -1),), ((-2, 5),), ((-5, 2),)))

    def test_back_again(self):
        for floor in floors(5):
            self.assertEqual(mirrored(mirrored(floor)), floor)
            self.assertEqual(half_turned(half_turned(floor)), floor)
            self.assertEqual(shifted(shifted(floor, (4, -7)), (-4, 7)), floor)

    def test_wrong(self):
        for wrong in ((), None, True, 5, "", SLAB[::-1], ((0, 0), (1, 1)), ((0, 0), (0, 0)), ((True, 0),), (0, 0)):
            for function in (mirrored, half_turned, lambda floor: shifted(floor, (1, 2)),
                             lambda floor: alike(floor, SLAB), lambda floor: alike(SLAB, floor)):
                with self.assertRaises(Unfit, msg=wrong):
                    function(wrong)


class Stairs(unittest.TestCase):
    def test_cells_go_along(self):
        for size in range(1, 7):
            for steps in product((0, 1), repeat=size - 1):
                stair = ((4, -7), steps)
                self.assertEqual(cells_plainly(stair_mirrored(stair)), tuple(by_cells(stair, mirror)))
                self.assertEqual(cells_plainly(stair_half_turned(stair)), tuple(by_cells(stair, half_turn)))
                self.assertEqual(stair_shifted(stair, (-4, 9)), ((0, 2), steps))

    def test_feet(self):
        for size in range(1, 7):
            stair = (STAIR[0], STAIR[1][:size - 1])
            self.assertEqual(foot_of(stair_mirrored(stair)), 1)
            self.assertEqual(foot_of(stair_half_turned(stair)), 1 - size - 1)
            self.assertEqual({size_of(stair_mirrored(stair)), size_of(stair_half_turned(stair))}, {size})

    def test_the_last_one_is_the_first(self):
        self.assertEqual(stair_half_turned(((0, 0), (0, 0, 1))), ((-2, -1), (1, 0, 0)))
        self.assertEqual(stair_mirrored(((0, 3), (0, 0, 1))), ((3, 0), (1, 1, 0)))

    def test_size_1(self):
        self.assertEqual((stair_shifted(((2, 5), ()), (1, -9)), stair_mirrored(((2, 5), ())),
                          stair_half_turned(((2, 5), ()))), (((3, -4), ()), ((5, 2), ()), ((-2, -5), ())))

    def test_wrong(self):
        for wrong in ((), None, True, "ab", ((0, 0), (2,)), ((0, 0), (True,)), ((0, 0, 0), ()), ((0, 0),), (0, 0)):
            for function in (stair_mirrored, stair_half_turned, lambda stair: stair_shifted(stair, (0, 0))):
                with self.assertRaises(Unfit, msg=wrong):
                    function(wrong)


class Layings(unittest.TestCase):
    def test_all_layings(self):
        for floor, size, laying in laid(6):
            by = (5, -3)
            for told, where, change in ((laying_shifted(laying, by), shifted(floor, by), lambda x: stair_shifted(x, by)),
                                        (laying_mirrored(laying), mirrored(floor), stair_mirrored),
                                        (laying_half_turned(laying), half_turned(floor), stair_half_turned)):
                self.assertIs(is_laying(where, size, told), True)
                self.assertEqual(told, tuple(sorted([change(stair) for stair in laying])))

    def test_as_many_layings(self):
        for floor in floors(6):
            for size in (2, 3, 4):
                many = len(layings_plainly(floor, size))
                self.assertEqual(len(layings_plainly(mirrored(floor), size)), many)
                self.assertEqual(len(layings_plainly(half_turned(floor), size)), many)

    def test_counts_go_along(self):
        for floor in floors(6):
            for size in (1, 2, 3):
                told = counts(floor, size)
                self.assertEqual(counts(mirrored(floor), size), told)
                if count_bar(floor, size) is None:
                    self.assertEqual(counts(half_turned(floor), size),
                                     tuple([(1 - size - foot, many) for foot, many in told[::-1]]))

    def test_places_and_who_is_ahead_turn(self):
        for _, _, laying in laid(6):
            for stair in laying:
                self.assertEqual(place(stair_mirrored(stair)[0]), -place(stair[0]))
                for other in laying:
                    ahead = ahead_plainly(stair, other)
                    turned = None if ahead is None else not ahead
                    self.assertIs(ahead_plainly(stair_mirrored(stair), stair_mirrored(other)), turned)
                    self.assertIs(ahead_plainly(stair_half_turned(stair), stair_half_turned(other)), turned)

    def test_wrong(self):
        for wrong in ((), None, True, "ab", (((0, 0), (0,)), ((0, 0), (1,))), (((0, 0), ()), ((1, 1), ())),
                      (((0, 1), ()), ((0, 0), ())), (((0, 0), ()), ((0, 1), (0,))), ((0, 0), (0,))):
            for function in (laying_mirrored, laying_half_turned, lambda laying: laying_shifted(laying, (0, 0))):
                with self.assertRaises(Unfit, msg=wrong):
                    function(wrong)


class Alike(unittest.TestCase):
    def test_all_floors(self):
        known = {floor: {to_corner(form) for form in (floor, mirrored(floor), half_turned(floor),
                                                     half_turned(mirrored(floor)))} for floor in floors(5)}
        for floor in floors(5):
            for other in floors(5):
                self.assertIs(alike(floor, other), other in known[floor], (floor, other))
                self.assertIs(alike(moved(floor, (9, -30)), other), other in known[floor])

    def test_not_by_a_quarter_turn(self):
        # What is mirrored turns right and up about; a quarter turn turns one of both alone.
        self.assertIs(alike(CORNER, ((0, 0), (1, 0), (1, 1))), False)
        self.assertIs(alike(CORNER, ((0, 1), (1, 0), (1, 1))), True)
        zigzag, other = ((0, 0), (1, 0), (1, 1), (2, 1)), ((0, 1), (1, 0), (1, 1), (2, 0))
        self.assertIs(alike(zigzag, other), False)
        self.assertIs(alike(zigzag, mirrored(zigzag)), True)

    def test_each_by_itself(self):
        # It is like none of its own forms but by this one.
        floor = ((0, 0), (0, 1), (0, 2), (1, 2), (2, 2), (2, 3))
        forms = [floor, mirrored(floor), half_turned(floor), half_turned(mirrored(floor))]
        self.assertEqual(len({to_corner(form) for form in forms}), 4)
        for form in forms:
            self.assertIs(alike(floor, shifted(form, (-8, 3))), True)
        self.assertIs(alike(floor, ((0, 0), (0, 1), (0, 2), (1, 2), (2, 1), (2, 2))), False)
        self.assertIs(alike(SLAB, floor), False)


if __name__ == "__main__":
    unittest.main()
