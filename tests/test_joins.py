"""Point [19]: joins and CUTS, over small FLOORS, LAYINGS by chance, and at the edges."""

import unittest

from stairlaid.counts import count_bar, counts
from stairlaid.errors import TooMany, Unfit
from stairlaid.joins import can_join, cuts, is_cut, joined, laid_together, parted
from stairlaid.layings import is_laying
from stairlaid.shapes import middles, sums
from stairlaid.takes import is_take
from tests.made import (NO_FLOORS, NO_LAYINGS, TAKES_400, TAKES_401, block_of, cells_plainly, floors, is_floor_plainly,
                        laid_ones, layings_plainly, moved, named_plainly, order_plainly, patched, strip_of)
from tests.test_takes import left_plainly, sets_of, takes_plainly

LEFT, RIGHT = block_of(1, 2), ((1, 0), (1, 1))
UPRIGHT = (((0, 0), (1,)), ((1, 0), (1,)), ((2, 0), (1,)))
CUP = ((0, 0), (0, 1), (0, 2), (1, 0), (2, 0), (2, 1))


def pairs_of_floors(most):
    """Pairs of FLOORS of at most so many CELLS, the second one moved about near the first."""
    return [(floor, moved(other, (x, y))) for floor in floors(most) for other in floors(most)[::3]
            for x in range(-2, 4) for y in range(-2, 4)]


def cells_of_stairs(stairs):
    return tuple(sorted([cell for stair in stairs for cell in cells_plainly(stair)]))


def cuts_plainly(laying):
    found = []
    for own in takes_plainly(laying):
        left = left_plainly(laying, own)
        gone = tuple([stair for stair in laying if stair not in left])
        if is_floor_plainly(cells_of_stairs(gone)) and is_floor_plainly(cells_of_stairs(left)):
            found.append((own, (gone, left)))
    return found


def added(*tables):
    """The pairs of keys and numbers of these, numbers of one key added up, without those that are 0."""
    told = {}
    for key, many in [row for table in tables for row in table]:
        told[key] = told.get(key, 0) + many
    return tuple([(key, told[key]) for key in sorted(told) if told[key] != 0])


class Floors(unittest.TestCase):
    def test_pairs_of_small_floors(self):
        kinds = {True: 0, False: 0}
        for floor, other in pairs_of_floors(4):
            both = {*floor, *other}
            told = len(both) == len(floor) + len(other) and is_floor_plainly(both)
            kinds[told] += 1
            self.assertIs(can_join(floor, other), told)
            if told:
                self.assertEqual(joined(floor, other), tuple(sorted(both)))
            else:
                with self.assertRaises(Unfit):
                    joined(floor, other)
        self.assertGreater(min(kinds.values()), 500)

    def test_edges(self):
        # A common CELL, a corner alone, apart, a CELL shut in by sides, by a corner.
        ring = (block_of(3, 1), ((0, 1), (0, 2), (1, 2), (2, 2)), ((0, 1), (0, 2), (1, 2), (2, 1), (2, 2)))
        self.assertEqual([can_join(LEFT, LEFT), can_join(LEFT, ((0, 1), (0, 2))), can_join(((0, 0),), ((1, 1),)),
                          can_join(LEFT, ((1, 2),)), can_join(LEFT, ((2, 0),)), can_join(ring[0], ring[1]),
                          can_join(ring[0], ring[2]), can_join(CUP, ((1, 2),)), can_join(CUP, ((1, 1),))],
                         [False, False, False, False, False, True, False, False, True])
        self.assertEqual(joined([[1, 0]], [[0, 0]]), ((0, 0), (1, 0)))

    def test_counts_add_up(self):
        seen = 0
        for floor, other in pairs_of_floors(4)[::5]:
            for size in (1, 2, 3):
                if can_join(floor, other) and count_bar(floor, size) is None and count_bar(other, size) is None:
                    seen += 1
                    self.assertEqual(counts(joined(floor, other), size), added(counts(floor, size), counts(other, size)))
        self.assertGreater(seen, 200)

    def test_wrong(self):
        for function in (can_join, joined):
            for wrong in NO_FLOORS:
                for floor, other in ((wrong, LEFT), (LEFT, wrong), (wrong, wrong)):
                    with self.assertRaises(Unfit):
                        function(floor, other)


class Layings(unittest.TestCase):
    def test_pairs_of_small_floors(self):
        seen = 0
        for floor, other in pairs_of_floors(4):
            for size in (1, 2, 4):
                for laying in layings_plainly(floor, size)[:1]:
                    for its in layings_plainly(other, size)[-1:]:
                        if is_floor_plainly({*floor, *other}) and not set(floor) & set(other):
                            seen += 1
                            self.together(floor, other, size, laying, its)
                        else:
                            with self.assertRaises(Unfit):
                                laid_together(laying, its)
        self.assertGreater(seen, 200)

    def together(self, floor, other, size, laying, its):
        both = laid_together(laying, its)
        self.assertEqual(both, tuple(sorted([*laying, *its])))
        self.assertIs(is_laying(joined(floor, other), size, both), True)
        for function in (sums, middles):
            self.assertEqual(function(both), tuple([a + b for a, b in zip(function(laying), function(its))]))

    def test_unlike_sizes(self):
        for laying, other in (((((0, 0), (1,)),), (((1, 0), (1, 1)),)), ((((0, 0), ()),), (((1, 0), (1,)),))):
            for own, its in ((laying, other), (other, laying)):
                with self.assertRaises(Unfit):
                    laid_together(own, its)

    def test_lists(self):
        self.assertEqual(laid_together([[[1, 0], [1]], [[2, 0], [1]]], [[[0, 0], [1]]]), UPRIGHT)

    def test_wrong(self):
        good = (((0, 0), (1,)),)
        for wrong in NO_LAYINGS:
            for laying, other in ((wrong, good), (good, wrong), (wrong, wrong)):
                with self.assertRaises(Unfit):
                    laid_together(laying, other)


class Cuts(unittest.TestCase):
    def test_all_layings(self):
        many = set()
        for _, size, layings in laid_ones(6, 12):
            for laying in [own for own in (*layings[:2], *layings[2::12]) if len(own) <= 7]:
                told = cuts_plainly(laying)
                self.assertEqual((type(cuts(laying)), cuts(laying)), (list, [own for own, _ in told]))
                for own in sets_of(named_plainly(laying)):
                    self.assertIs(is_cut(laying, own), own in [cut for cut, _ in told])
                for own, parts in told:
                    self.parts(size, laying, own, parts)
                many.add(len(told))
        self.assertGreater(len(many), 5)

    def parts(self, size, laying, own, parts):
        gone, left = parted(laying, own)
        self.assertEqual((gone, left), parts)
        for part in parts:
            self.assertIs(is_laying(cells_of_stairs(part), size, part), True)
        self.assertEqual(laid_together(left, gone), laying)
        self.assertFalse([pair for pair in order_plainly(laying) if pair[0] not in own and pair[1] in own])
        self.assertEqual(added(counts(cells_of_stairs(gone), size), counts(cells_of_stairs(left), size)),
                         counts(cells_of_stairs(laying), size))

    def test_none_and_all(self):
        for laying in (UPRIGHT, (((5, 5), ()),)):
            for own in ((), tuple(named_plainly(laying))):
                self.assertIs(is_take(laying, own), True)
                self.assertIs(is_cut(laying, own), False)
                with self.assertRaises(Unfit):
                    parted(laying, own)
        self.assertEqual((cuts((((5, 5), (0, 1)),)), cuts((((5, 5), ()),))), ([], []))

    def test_what_falls_apart(self):
        # Taken, or left, they touch at a corner alone.
        bow = strip_of((0, 1, 0, 1))
        for own in takes_plainly(bow):
            self.assertIs(is_cut(bow, own), own in cuts(bow))
        bent = (((0, 0), ()), ((0, 1), ()), ((1, 1), ()))
        self.assertEqual((is_take(bent, ((1, 0),)), is_cut(bent, ((1, 0),))), (True, False))

    def test_things_that_are_no_cut(self):
        self.assertIs(is_cut(UPRIGHT, ((0, 0), (1, 0))), True)
        for thing in (None, True, 0, "ab", [], [(0, 0)], ([0, 0],), ((1, 0),), ((1, 0), (0, 0)), ((0, 0), (0, 0)),
                      ((False, 0),), ((0, False),), ((0, 0), (5, 0)), ((0, 0), None), (0, 0), ((0.0, 0),), ((10 ** 30, 0),)):
            self.assertIs(is_cut(UPRIGHT, thing), False, thing)

    def test_names_that_are_no_cut(self):
        for names in (((1, 0),), ((1, 0), (0, 0)), ((0, 0), (0, 0)), ((9, 9),), ((True, 0),)):
            with self.assertRaises(Unfit):
                parted(UPRIGHT, names)
        self.assertEqual(parted(UPRIGHT, [[0, 0]]), (UPRIGHT[:1], UPRIGHT[1:]))

    def test_names_are_told_anew(self):
        tiles = layings_plainly(patched((0, 0, 2, 2)), 1)[0]
        gone, left = parted(tiles, ((0, 0), (1, 0)))
        self.assertEqual((list(named_plainly(gone)), list(named_plainly(left))), ([(0, 0), (1, 0)], [(1, 0), (2, 0)]))
        self.assertEqual(named_plainly(left)[(1, 0)], named_plainly(tiles)[(1, 1)])

    def test_just_400_and_more(self):
        told = cuts(TAKES_400)
        self.assertTrue(0 < len(told) < 400)
        self.assertTrue(all([is_cut(TAKES_400, own) for own in told]))
        with self.assertRaises(TooMany):
            cuts(TAKES_401)
        # One by one they are told all the same.
        name = (max([sum(cell) for cell, _ in TAKES_401]), 0)
        self.assertIs(is_cut(TAKES_401, (name,)), is_take(TAKES_401, (name,)))

    def test_wrong(self):
        for wrong in NO_LAYINGS:
            for function in (cuts, lambda laying: is_cut(laying, None), lambda laying: parted(laying, ((9, 9),))):
                with self.assertRaises(Unfit):
                    function(wrong)


if __name__ == "__main__":
    unittest.main()
