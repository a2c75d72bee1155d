"""Point [13]: what can be laid, and BARS, over all small FLOORS, greater ones by chance, and at the edges."""

import unittest
from itertools import permutations

from stairlaid.cans import bar, can_lay, is_bar, lay
from stairlaid.counts import counts, names_of
from stairlaid.errors import Broken, CanNot, Unfit
from stairlaid.layings import is_laying
from stairlaid.peels import laid_by
from stairlaid.rims import rim_rows
from stairlaid.told import is_ring, told_pairs
from tests.made import block_of, floors, layings_plainly, wild

SLAB, CORNER = block_of(3, 2), ((0, 0), (0, 1), (1, 0))
KNOT = ((0, 1), (1, 1), (2, 0), (2, 1), (2, 2), (3, 0))
STRAIT = ((0, 1), (0, 2), (1, 1), (2, 1), (3, 0), (3, 1))
FORK = ((0, 1), (1, 1), (1, 2), (2, 0), (2, 1), (3, 1))
# Can be laid, though feet that ascend get stuck; so do least places.
BY_FEET, BY_PLACES = ((0, 0), (0, 1), (0, 2), (1, 0)), ((0, 0), (0, 1), (1, 0), (2, 0))


def asked():
    return ([(floor, size) for floor in floors(6) for size in range(1, 8)]
            + [(floor, size) for size in (2, 3, 4) for floor in wild(150, size)])


def bars_plainly(floor, size):
    """All BARS of the kind that bars; a RING of each length up to three NAMES."""
    last, told = max([sum(cell) for cell in floor]), dict(counts(floor, size))
    feet = [foot for foot, many in told.items() if many < 0 or foot + size - 1 > last]
    if feet:
        return [("count", foot) for foot in feet]
    points = {point for point, numbers in rim_rows(floor, size) for i, many in enumerate(numbers)
              if not 0 <= many <= told.get(sum(point) - size + i, 0)}
    if points:
        return [("rim", point) for point in sorted(points)]
    pairs, called = told_pairs(floor, size), names_of(floor, size)
    return [("ring", names) for many in (2, 3) for names in permutations(called, many)
            if all([(names[at - 1], names[at]) in pairs for at in range(many)])]


class Cans(unittest.TestCase):
    def test_there_is_a_laying_exactly_without_a_bar(self):
        kinds = {}
        for floor, size in asked():
            known = layings_plainly(floor, size)
            self.assertIs(can_lay(floor, size), known != [])
            if known:
                self.assertIn(lay(floor, size), known)
                with self.assertRaises(CanNot):
                    bar(floor, size)
                self.assertEqual([is_bar(floor, size, thing) for thing in
                                  (("count", min(map(sum, floor))), ("rim", floor[0]), ("ring", ((0, 0), (1, 0))))],
                                 [False] * 3)
            else:
                with self.assertRaises(CanNot):
                    lay(floor, size)
                told = bar(floor, size)
                self.assertIs(is_bar(floor, size, told), True)
                kinds[told[0]] = kinds.get(told[0], 0) + 1
        self.assertEqual(sorted(kinds), ["count", "rim", "ring"])
        self.assertGreater(min(kinds.values()), 5)

    def test_which_bar_comes_first(self):
        for floor, size in asked():
            if not can_lay(floor, size):
                bars, told = bars_plainly(floor, size), bar(floor, size)
                if told[0] == "ring":
                    self.assertIn(told, bars)
                    self.assertEqual(len(told[1]), len(bars[0][1]))
                else:
                    self.assertEqual(told, bars[0])

    def test_all_bars_and_no_others(self):
        for floor, size in [(CORNER, 3), (SLAB, 4), (STRAIT, 3), (KNOT, 3), (FORK, 2), *[
                (floor, size) for size in (3, 4) for floor in wild(40, size) if not can_lay(floor, size)]]:
            bars, called = bars_plainly(floor, size), [(f, k) for f, many in counts(floor, size) for k in range(many)]
            things = [("count", foot) for foot in range(-9, 20)]
            things += [("rim", (x, y)) for x in range(-5, 9) for y in range(-5, 9)]
            things += [("ring", names) for many in (0, 1, 2, 3) for names in permutations(called[:7], many)]
            for thing in [*things, *bars]:
                self.assertIs(is_bar(floor, size, thing), thing in bars, (floor, size, thing))

    def test_peelings_that_do_not_find_it(self):
        for floor in (BY_FEET, BY_PLACES):
            self.assertIs(can_lay(floor, 2), True)
            self.assertIn(lay(floor, 2), layings_plainly(floor, 2))
        with self.assertRaises(Broken):
            laid_by(BY_FEET, 2, (0, 1))
        with self.assertRaises(Broken):
            laid_by(BY_PLACES, 2, (1, 0))

    def test_edges(self):
        self.assertEqual((lay(((5, 5),), 1), can_lay(((5, 5),), 2), bar(((5, 5),), 2), can_lay(((5, 5),), 10 ** 6)),
                         ((((5, 5), ()),), False, ("count", 10), False))
        self.assertEqual(lay(SLAB, 1), tuple([(cell, ()) for cell in SLAB]))

    def test_as_great_as_the_bounds(self):
        for size in range(1, 7):
            for floor in (block_of(8, 5), block_of(6, 6), block_of(5, 8), block_of(40, 1), block_of(1, 40)):
                wide, high = max(floor)
                fits = (wide + 1) % size == 0 or (high + 1) % size == 0
                self.assertIs(can_lay(floor, size), fits, (size, wide, high))
                if fits:
                    self.assertIs(is_laying(floor, size, lay(floor, size)), True)

    def test_wrong(self):
        for floor, size in ((SLAB, 0), (SLAB, None), (SLAB, True), ((), 2), (None, 2), (SLAB[::-1], 2),
                            (((0, 0), (1, 1)), 1), (CORNER, 0), (KNOT[::-1], 3), ("ab", 0), (KNOT, -1)):
            for function in (can_lay, lay, bar, lambda floor, size: is_bar(floor, size, None)):
                with self.assertRaises(Unfit, msg=(floor, size)):
                    function(floor, size)


class Things(unittest.TestCase):
    def test_bent_in_one_member(self):
        for floor, size, told, bent in (
                (CORNER, 3, ("count", 0), (["count", 0], ("count",), ("count", 0, 0), ("count", False), ("Count", 0),
                                           ("count", "0"), ("count", (0,)), ("count", None), ("rim", 0), (0, "count"),
                                           ("count", 5), ("count", -1), (None, 0), ("count", [0]), (["count"], 0),
                                           ("rim", (0, 0)), ("ring", ((0, 0), (1, 0))))),
                (STRAIT, 3, ("rim", (1, 2)), (["rim", (1, 2)], ("rim", [1, 2]), ("rim", (True, 2)), ("rim", (1,)),
                                              ("rim", 1, 2), ("rim", (1, 2, 0)), ("rim", (2, 1)), ("rim", None),
                                              ("count", (1, 2)), ("count", 1), ("ring", (1, 2)), ("rim",),
                                              ("rim", "12"), ("rim", ((1, 2),)), ("rim", (50, 50)))),
                (KNOT, 3, ("ring", ((1, 0), (2, 0))), (["ring", ((1, 0), (2, 0))], ("ring", [(1, 0), (2, 0)]),
                                                       ("ring", ((1, 0), [2, 0])), ("ring", ((True, 0), (2, 0))),
                                                       ("ring", ((1, 0),)), ("ring", ()), ("ring",), ("ring", None),
                                                       ("ring", ((1, 0), (2, 0), (1, 0), (2, 0))), ("count", 1),
                                                       ("rim", ((1, 0), (2, 0))), ("rim", (2, 1)), ((1, 0), (2, 0)),
                                                       ("ring", (1, 0), (2, 0)), ("ring", "ab")))):
            self.assertIs(is_bar(floor, size, told), True)
            for thing in (*bent, None, True, 0, "", "count", (), [], told[1], [told]):
                self.assertIs(is_bar(floor, size, thing), False, thing)

    def test_a_ring_is_none_if_anything_else_bars(self):
        # KNOT by size 3 has a RING, by size 2 a COUNT bars; of STRAIT a POINT bars, and no RING is told.
        self.assertIs(is_ring(KNOT, 3, ((2, 0), (1, 0))), True)
        self.assertEqual([is_bar(KNOT, size, ("ring", ((2, 0), (1, 0)))) for size in (2, 3, 4)], [False, True, False])
        self.assertIs(is_bar(STRAIT, 3, ("ring", ((1, 0), (2, 0)))), False)


if __name__ == "__main__":
    unittest.main()
