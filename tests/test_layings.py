"""Point [6]: STAIRS and LAYINGS, over all small ones and at the edges."""

import unittest
from itertools import product

from stairlaid.counts import names_of
from stairlaid.errors import NoCell, NoName, Unfit
from stairlaid.layings import (cells_of, floor_of, foot_of, is_laying, is_stair, name_at, names, size_of,
                               stair_named, stairs_in)
from tests.made import block_of, cells_plainly, floors, laid, layings_plainly, stairs_plainly

SLAB = block_of(3, 2)
FLAT, BENT = (((0, 0), (0, 0)), ((0, 1), (0, 0))), (((0, 0), (1, 0)), ((1, 0), (0, 1)))
FAN = (((0, 1), (1,)), ((1, 0), (0,)), ((1, 1), (0,)))
NO_STAIRS = [None, True, 0, 5, "", "ab", (), ((0, 0),), ((0, 0), (), ()), ((0, 0), None), ((0, 0), "01"), ((0, 0), 1),
             ((0, 0), (2,)), ((0, 0), (-1,)), ((0, 0), (0, 1, 2)), ((0, 0), (True,)), ((0, 0), (0, False)),
             ((0, 0), (None,)), ((0, 0), ("0",)), ((0,), ()), ((0, 0, 0), ()), ((True, 0), ()), ((0, False), ()),
             (("0", 0), ()), (None, ()), ((), (0, 0)), ((0, 0), ((0,),))]
NO_LAYINGS = [None, True, 3, "", "ab", (), (()), ((0, 0), ()), (((0, 0), (2,)),), (((0, 0), (True,)),),
              # Of two sizes, not ascending, twice, a CELL twice, no FLOOR, a CELL shut in.
              (((0, 0), ()), ((0, 1), (0,))), (((0, 0), (0,)), ((0, 1), ())), FLAT[::-1], (FLAT[0], FLAT[0]),
              (((0, 0), (0,)), ((0, 0), (1,))), (((0, 0), (0,)), ((2, 1), (0,))),
              (((0, 0), (0,)), ((0, 1), (1,)), ((1, 2), (0,)), ((2, 0), (1,))),
              (FLAT[0], None), (None, FLAT[1]), (FLAT[0], "ab"), (FLAT[0], ((0, 1), (0, 2)))]


class Stairs(unittest.TestCase):
    def test_all_small_ones(self):
        for size in range(1, 7):
            for steps in product((0, 1), repeat=size - 1):
                for cell in ((0, 0), (-4, 3), (10 ** 6, -10 ** 6)):
                    stair = (cell, steps)
                    self.assertIs(is_stair(stair), True)
                    self.assertEqual(size_of(stair), size)
                    self.assertEqual(foot_of(stair), sum(cell))
                    self.assertEqual(cells_of(stair), cells_plainly(stair))
                    self.assertEqual([sum(own) for own in cells_of(stair)], [sum(cell) + i for i in range(size)])

    def test_steps(self):
        self.assertEqual(cells_of(((4, -1), (0, 1, 1, 0))), ((4, -1), (5, -1), (5, 0), (5, 1), (6, 1)))
        self.assertEqual(cells_of(((7, 7), ())), ((7, 7),))

    def test_whatever_numbers_and_size(self):
        self.assertTrue(is_stair(((10 ** 30, -10 ** 30), (0, 1))))
        self.assertTrue(is_stair(((0, 0), (1,) * 5000)))
        self.assertFalse(is_stair(((0, 0), (1,) * 5000 + (2,))))
        self.assertEqual(size_of(((0, 0), (1,) * 50)), 51)

    def test_lists_are_no_tuples(self):
        for thing in ([(0, 0), (0, 0)], ([0, 0], (0, 0)), ((0, 0), [0, 0]), ((0, 0), []), [[0, 0], []]):
            self.assertIs(is_stair(thing), False, thing)

    def test_no_stair(self):
        for wrong in NO_STAIRS:
            self.assertIs(is_stair(wrong), False, wrong)
            for function in (size_of, foot_of, cells_of):
                with self.assertRaises(Unfit, msg=wrong):
                    function(wrong)


class StairsIn(unittest.TestCase):
    def test_all_floors(self):
        for floor in floors(6):
            for size in range(1, 8):
                found = stairs_in(floor, size)
                self.assertIs(type(found), list)
                self.assertEqual(found, stairs_plainly(floor, size), (floor, size))

    def test_edges(self):
        self.assertEqual(stairs_in(((5, 5),), 1), [((5, 5), ())])
        self.assertEqual(stairs_in(((5, 5),), 2), [])
        self.assertEqual(stairs_in(SLAB, 4), [((0, 0), (0, 0, 1)), ((0, 0), (0, 1, 0)), ((0, 0), (1, 0, 0))])
        self.assertEqual(stairs_in(SLAB, 5), [])
        self.assertEqual(stairs_in(SLAB, 10 ** 6), [])
        self.assertEqual(len(stairs_in(block_of(6, 6), 6)), len(stairs_plainly(block_of(6, 6), 6)))

    def test_new_list(self):
        found = stairs_in(SLAB, 3)
        found.clear()
        self.assertEqual(len(stairs_in(SLAB, 3)), 6)

    def test_wrong(self):
        for floor, size in ((SLAB, 0), (SLAB, -1), (SLAB, None), (SLAB, True), (SLAB, "2"), ((), 2),
                            (((0, 0), (1, 1)), 1), (None, 2), (SLAB[::-1], 2)):
            with self.assertRaises(Unfit, msg=(floor, size)):
                stairs_in(floor, size)


class Layings(unittest.TestCase):
    def test_all_layings(self):
        for floor, size, laying in laid(6):
            self.assertIs(is_laying(floor, size, laying), True, laying)
            self.assertEqual(floor_of(laying), floor)
            for other in range(1, 8):
                self.assertIs(is_laying(floor, other, laying), other == size)

    def test_one_floor_alone(self):
        for floor, size, laying in laid(4):
            for other in floors(4):
                self.assertIs(is_laying(other, size, laying), other == floor)

    def test_each_choice_of_stairs(self):
        for floor in floors(4):
            for size in (1, 2, 3):
                known, stairs = layings_plainly(floor, size), stairs_in(floor, size)
                for chosen in product((False, True), repeat=len(stairs)):
                    thing = tuple([stair for stair, fits in zip(stairs, chosen) if fits])
                    self.assertIs(is_laying(floor, size, thing), thing in known)

    def test_no_laying(self):
        for wrong in NO_LAYINGS:
            self.assertIs(is_laying(SLAB, 3, wrong), False, wrong)
            for function in (floor_of, names):
                with self.assertRaises(Unfit, msg=wrong):
                    function(wrong)
            with self.assertRaises(Unfit, msg=wrong):
                stair_named(wrong, (9, 9))
            with self.assertRaises(Unfit, msg=wrong):
                name_at(wrong, (9, 9))

    def test_of_two_sizes(self):
        mixed = (((0, 0), (0,)), ((2, 0), ()))
        for size in (1, 2, 3):
            self.assertIs(is_laying(block_of(3, 1), size, mixed), False)
        with self.assertRaises(Unfit):
            floor_of(mixed)

    def test_lists_are_no_tuples(self):
        for thing in (list(FLAT), ([*FLAT[0]], FLAT[1]), (([0, 0], (0, 0)), FLAT[1]), (((0, 0), [0, 0]), FLAT[1])):
            self.assertIs(is_laying(SLAB, 3, thing), False, thing)

    def test_errors_whatever_thing_is(self):
        for thing in (FLAT, None, (), [FLAT]):
            for floor, size in ((SLAB, 0), (SLAB, True), (SLAB, None), ((), 3), (((0, 0), (1, 1)), 3), (None, 0)):
                with self.assertRaises(Unfit):
                    is_laying(floor, size, thing)

    def test_one_stair(self):
        self.assertEqual(floor_of((((4, 4), ()),)), ((4, 4),))
        self.assertIs(is_laying(((4, 4),), 1, (((4, 4), ()),)), True)
        self.assertIs(is_laying(((4, 4),), 1, ()), False)


class Names(unittest.TestCase):
    def test_all_layings(self):
        for floor, size, laying in laid(6):
            told = names(laying)
            self.assertIs(type(told), tuple)
            self.assertEqual(list(told), sorted(set(told)))
            self.assertEqual(sorted([stair for _, stair in told]), list(laying))
            for (foot, k), stair in told:
                ahead = [own for own in laying if foot_of(own) == foot
                         and own[0][0] - own[0][1] < stair[0][0] - stair[0][1]]
                self.assertEqual((foot, k), (foot_of(stair), len(ahead)))
                self.assertEqual(stair_named(laying, (foot, k)), stair)
                self.assertEqual([name_at(laying, cell) for cell in cells_of(stair)], [(foot, k)] * size)

    def test_alike_in_all_layings(self):
        for floor, size, laying in laid(6):
            self.assertEqual(tuple([name for name, _ in names(laying)]), names_of(floor, size))

    def test_of_one_foot_the_same_is_at_lesser_places(self):
        for _, _, laying in laid(6):
            for name, stair in names(laying):
                for other, behind in names(laying):
                    if name[0] == other[0] and name < other:
                        for (x, y), (a, b) in zip(cells_of(stair), cells_of(behind)):
                            self.assertLess(x - y, a - b)

    def test_none_has_it(self):
        for name in ((1, 2), (1, -1), (0, 0), (-1, 0), (2, 1), (True, 0), (1,), None, (1, 0, 0), (2, False)):
            with self.assertRaises(NoName) as caught:
                stair_named(FAN, name)
            self.assertEqual(repr(caught.exception.name), repr(name))
        for cell in ((3, 0), (-1, 0), (2, 2), (True, 0), (1,), None, (0, False)):
            with self.assertRaises(NoCell) as caught:
                name_at(FLAT, cell)
            self.assertEqual(repr(caught.exception.cell), repr(cell))

    def test_tuples_are_kept(self):
        with self.assertRaises(NoName) as caught:
            stair_named(FAN, [5, 5])
        self.assertEqual(repr(caught.exception.name), "(5, 5)")
        with self.assertRaises(NoCell) as caught:
            name_at(FAN, [5, 5])
        self.assertEqual(repr(caught.exception.cell), "(5, 5)")


if __name__ == "__main__":
    unittest.main()
