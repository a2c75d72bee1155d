"""Point [18]: TAKES, over all LAYINGS of small FLOORS, greater ones by chance, and at the edges."""

import unittest
from itertools import combinations

from stairlaid.counts import count
from stairlaid.errors import CanNot, NoCell, TooMany, Unfit
from stairlaid.layings import is_laying
from stairlaid.rims import rim_rows
from stairlaid.takes import first_take, is_take, left_floor, taken, takes
from tests.made import (NO_LAYINGS, NO_PAIRS, TAKES_400, TAKES_401, block_of, cells_plainly, is_floor_plainly, laid_ones,
                        named_plainly, order_plainly)

SLAB = block_of(3, 2)
FLAT, BENT = (((0, 0), (0, 0)), ((0, 1), (0, 0))), (((0, 0), (1, 0)), ((1, 0), (0, 1)))
BEDS = tuple([((0, y), (0, 0)) for y in (0, 1, 2)])


def sets_of(names):
    """All sets of these NAMES."""
    return [own for many in range(len(names) + 1) for own in combinations(sorted(names), many)]


def takes_plainly(laying):
    order = order_plainly(laying)
    return sorted([own for own in sets_of(named_plainly(laying))
                   if all([name in own for name, other in order if other in own])])


def left_plainly(laying, names):
    return tuple(sorted([stair for name, stair in named_plainly(laying).items() if name not in names]))


def cells_left(laying, names):
    return tuple(sorted([cell for stair in left_plainly(laying, names) for cell in cells_plainly(stair)]))


def some_layings():
    """(FLOOR, size, LAYING) with at most 8 STAIRS, a few of each FLOOR."""
    return [(floor, size, laying) for floor, size, layings in laid_ones(6, 12)
            for laying in (*layings[:2], *layings[2::9]) if len(laying) <= 8]


class Takes(unittest.TestCase):
    def test_all_sets_of_names(self):
        many = 0
        for _, _, laying in some_layings():
            told = takes_plainly(laying)
            for own in sets_of(named_plainly(laying)):
                self.assertIs(is_take(laying, own), own in told)
                if own in told:
                    self.assertEqual(taken(laying, own), left_plainly(laying, own))
                    many += 1
                else:
                    for function in (taken, left_floor):
                        with self.assertRaises(Unfit):
                            function(laying, own)
        self.assertGreater(many, 2000)

    def test_what_leaves_a_floor(self):
        without = 0
        for _, _, laying in some_layings():
            leaving = []
            for own in takes_plainly(laying):
                cells = cells_left(laying, own)
                if is_floor_plainly(cells):
                    leaving.append(own)
                    self.assertEqual(left_floor(laying, own), cells)
                else:
                    without += 1
                    with self.assertRaises(CanNot):
                        left_floor(laying, own)
            self.assertEqual((type(takes(laying)), takes(laying)), (list, leaving))
            self.assertEqual(leaving[0], ())
        self.assertGreater(without, 1000)

    def test_first_take(self):
        for _, _, laying in some_layings():
            told = takes_plainly(laying)
            for name, stair in named_plainly(laying).items():
                own = min([take for take in told if name in take], key=len)
                for cell in cells_plainly(stair):
                    self.assertEqual(first_take(laying, cell), own)

    def test_together_and_in_common(self):
        for _, _, laying in some_layings()[::7]:
            told = takes_plainly(laying)
            self.assertEqual((told[0], is_take(laying, tuple(named_plainly(laying)))), ((), True))
            for own in told[::3]:
                for its in told[::2]:
                    for both in (set(own) | set(its), set(own) & set(its)):
                        self.assertIs(is_take(laying, tuple(sorted(both))), True)

    def test_what_is_left(self):
        seen = 0
        for floor, size, laying in some_layings():
            order = order_plainly(laying)
            rim = dict(rim_rows(floor, size))
            for own in takes(laying)[1:][:5]:
                seen += 1
                self.left(size, laying, own, order, rim)
        self.assertGreater(seen, 300)

    def left(self, size, laying, own, order, rim):
        feet = [foot for foot, _ in own]
        less = {foot: feet.count(foot) for foot, _ in named_plainly(laying)}
        # Of each foot the first NAMES.
        self.assertEqual(own, tuple([(foot, k) for foot in sorted(less) for k in range(less[foot])]))
        floor, stairs = left_floor(laying, own), taken(laying, own)
        self.assertIs(is_laying(floor, size, stairs), True)
        ahead, anew = named_plainly(laying), named_plainly(stairs)
        self.assertEqual({(foot, k + less[foot]): stair for (foot, k), stair in anew.items()},
                         {name: stair for name, stair in ahead.items() if name not in own})
        for foot in less:
            self.assertEqual(count(floor, size, foot), [name[0] for name in ahead].count(foot) - less[foot])
        self.assertEqual({tuple([(foot, k + less[foot]) for foot, k in pair]) for pair in order_plainly(stairs)},
                         {pair for pair in order if pair[0] not in own and pair[1] not in own})
        for point, numbers in rim_rows(floor, size):
            if point in rim:
                feet = range(sum(point) - size, sum(point))
                self.assertEqual(numbers, tuple([many - less.get(foot, 0) for foot, many in zip(feet, rim[point])]))

    def test_one_stair_and_size_1(self):
        lone = (((5, 5), (0, 1)),)
        self.assertEqual((takes(lone), is_take(lone, ((10, 0),)), taken(lone, ((10, 0),)), first_take(lone, (6, 5))),
                         ([()], True, (), ((10, 0),)))
        with self.assertRaises(CanNot):
            left_floor(lone, ((10, 0),))
        # (0, 1) is AHEAD of (0, 0) and (1, 1), they are AHEAD of (1, 0): taken off from the upper left on.
        tiles = tuple([(cell, ()) for cell in block_of(2, 2)])
        self.assertEqual(takes(tiles), [(), ((0, 0), (1, 0)), ((0, 0), (1, 0), (2, 0)), ((1, 0),), ((1, 0), (2, 0))])

    def test_what_falls_apart(self):
        row = tuple([((x, 0), ()) for x in range(3)])
        self.assertEqual(takes(row), [(), ((0, 0),), ((0, 0), (1, 0))])
        # Without its corner, what is left touches at a corner alone.
        bow = (((0, 0), ()), ((0, 1), ()), ((1, 1), ()))
        self.assertEqual((is_take(bow, ((1, 0),)), taken(bow, ((1, 0),)), takes(bow)),
                         (True, (((0, 0), ()), ((1, 1), ())), [(), ((0, 0), (1, 0)), ((1, 0), (2, 0))]))
        with self.assertRaises(CanNot):
            left_floor(bow, ((1, 0),))


class Things(unittest.TestCase):
    def test_things_that_are_no_take(self):
        good = ((1, 0), (2, 0))
        self.assertIs(is_take(BEDS, good), True)
        for thing in (None, True, 0, "", "ab", [], list(good), ([1, 0], (2, 0)), good[::-1], ((1, 0), (1, 0), (2, 0)),
                      ((True, 0), (2, 0)), ((1, False), (2, 0)), ((1.0, 0), (2, 0)), (*good, (3, 0)), (*good, (2, 1)),
                      ((1, -1), *good), (*good, None), ((1, 0),), ((2, 0), (2, 0)), (2, 0), ((2, 0, 0),), ((2,),), ("20",),
                      (good,), ((),), ((10 ** 30, 0),), ((2, 10 ** 30),)):
            self.assertIs(is_take(BEDS, thing), False, thing)

    def test_lists(self):
        self.assertEqual((taken(BENT, [[0, 0]]), left_floor([[[0, 0], [1, 0]], [[1, 0], [0, 1]]], [[0, 0]]), taken(BENT, [])),
                         ((BENT[1],), ((1, 0), (2, 0), (2, 1)), BENT))
        self.assertEqual(first_take(BENT, [2, 1]), ((0, 0), (1, 0)))

    def test_names_that_are_no_take(self):
        for names in (((0, 0),), ((1, 0), (0, 0)), ((1, 0), (1, 0)), ((1, 0), (2, 0)), ((9, 9),), ((True, 0),), ((1, 1),)):
            for function in (taken, left_floor):
                with self.assertRaises(Unfit):
                    function(FLAT, names)

    def test_no_cell(self):
        for cell in ((3, 0), (0, 2), (-1, 0), *[own for own in NO_PAIRS if own != (0, 0)]):
            with self.assertRaises(NoCell) as caught:
                first_take(FLAT, cell)
            self.assertEqual(repr(vars(caught.exception)), repr({"cell": cell}))
        with self.assertRaises(NoCell) as caught:
            first_take(FLAT, [9, 9])
        self.assertEqual(repr(caught.exception.cell), "(9, 9)")

    def test_just_400_and_more(self):
        told = takes(TAKES_400)
        # A row of CELLS: what hangs together of what is left.
        self.assertTrue(2 < len(told) < 400)
        self.assertTrue(all([is_floor_plainly(cells_left(TAKES_400, own)) for own in told]))
        with self.assertRaises(TooMany):
            takes(TAKES_401)
        with self.assertRaises(TooMany):
            takes(tuple([((x, y), (0,)) for x in range(0, 10, 2) for y in range(8)]))

    def test_wrong(self):
        for wrong in NO_LAYINGS:
            for function in (takes, lambda laying: is_take(laying, None), lambda laying: taken(laying, ((9, 9),)),
                             lambda laying: left_floor(laying, ((9, 9),)), lambda laying: first_take(laying, (9, 9))):
                with self.assertRaises(Unfit):
                    function(wrong)


if __name__ == "__main__":
    unittest.main()
