"""Point [10]: told pairs and RINGS, over all small FLOORS, greater ones by chance, and at the edges."""

import unittest
from itertools import permutations

from stairlaid.counts import count_bar, names_of
from stairlaid.errors import CanNot, Unfit
from stairlaid.rims import rim_bar, rim_rows
from stairlaid.runs import told_row
from stairlaid.told import is_ring, reason, told_pairs, told_ring
from tests.made import block_of, floors, layings_plainly, order_plainly, ways_plainly, wild

SLAB, CORNER, BENCH = block_of(3, 2), ((0, 0), (0, 1), (1, 0)), block_of(4, 3)
KNOT = ((0, 1), (1, 1), (2, 0), (2, 1), (2, 2), (3, 0))
KNOT2 = ((0, 2), (1, 0), (1, 1), (1, 2), (1, 3), (2, 1))
STRAIT = ((0, 1), (0, 2), (1, 1), (2, 1), (3, 0), (3, 1))
PIT = ((-3, 1), (-2, 0), (-2, 1), (-2, 2), (-2, 3), (-2, 4), (-1, -1), (-1, 0), (-1, 1), (0, -1), (0, 0), (0, 1),
       (0, 2), (0, 3), (1, -1), (1, 0), (1, 2), (2, 0))
FUNCTIONS = (told_pairs, told_ring, lambda floor, size: reason(floor, size, ((0, 0), (1, 0))),
             lambda floor, size: is_ring(floor, size, ((0, 0), (1, 0))))


def clear(most, sizes):
    """(FLOOR, size) of small FLOORS and greater ones of which no COUNT and no POINT bars."""
    asked = [(floor, size) for size in sizes for floor in floors(most)]
    asked += [(floor, size) for size in (2, 3, 4) for floor in wild(100, size)]
    return [(floor, size) for floor, size in asked
            if count_bar(floor, size) is None and rim_bar(floor, size) is None]


def reasons_plainly(floor, size):
    """Each told pair with why it is told, by the words of (i), (ii), (iii)."""
    called, found = names_of(floor, size), {}
    for point, numbers in sorted(rim_rows(floor, size)):
        feet = list(enumerate(numbers, sum(point) - size))
        for name, other in [((foot, p - 1), (other, q)) for foot, p in feet for other, q in feet if foot != other]:
            if name in called and other in called and (name, other) not in found:
                found[(name, other)] = ("rim", point)
    for foot in sorted({sum(cell) for cell in floor}):
        try:
            row = told_row(floor, size, foot)
        except CanNot:
            continue
        found.update({(name, other): ("run", foot + size - 1) for name, other in zip(row, row[1:])
                      if name[0] != other[0]})
    found.update({(name, other): ("foot",) for name in called for other in called
                  if (name[0], name[1] + 1) == other})
    return found


class Told(unittest.TestCase):
    def test_by_the_words(self):
        for floor, size in clear(6, (1, 2, 3, 4)):
            told = reasons_plainly(floor, size)
            self.assertEqual(told_pairs(floor, size), tuple(sorted(told)))
            self.assertEqual([reason(floor, size, pair) for pair in sorted(told)],
                             [told[pair] for pair in sorted(told)])
            for (foot, _), (other, _) in told:
                self.assertLessEqual(abs(foot - other), size)

    def test_each_holds_in_all_layings_and_there_is_one_without_a_ring(self):
        rings = 0
        for floor, size in clear(7, (2, 3, 4)):
            layings, told = layings_plainly(floor, size), set(told_pairs(floor, size))
            self.assertEqual(told_ring(floor, size) is None, layings != [])
            rings += layings == []
            for laying in layings:
                self.assertLessEqual(told, order_plainly(laying))
        self.assertGreater(rings, 12)

    def test_who_lies_alike_in_all_layings(self):
        for floor, size in clear(6, (1, 2, 3, 5)):
            orders = [order_plainly(laying) for laying in layings_plainly(floor, size)]
            if orders:
                ways = ways_plainly(told_pairs(floor, size))
                always = set.intersection(*orders)
                self.assertEqual(always, {pair for pair in ways if abs(pair[0][0] - pair[1][0]) <= size})

    def test_by_what_a_pair_is_told(self):
        for floor, size in clear(7, (2, 3)):
            for name, other in told_pairs(floor, size):
                apart = abs(name[0] - other[0])
                kinds = {0: "foot", size: "run"}
                self.assertEqual(reason(floor, size, (name, other))[0], kinds.get(apart, "rim"))

    def test_not_told(self):
        for pair in (((0, 0), (1, 0)), ((2, 0), (0, 0)), ((0, 0), (0, 0)), ((0, 0), (0, 1)), ((9, 0), (9, 1))):
            with self.assertRaises(CanNot):
                reason(SLAB, 2, pair)

    def test_edges(self):
        self.assertEqual((told_pairs(((5, -2),), 1), told_ring(((5, -2),), 1)), ((), None))
        self.assertEqual(told_pairs(SLAB, 1)[:3], (((0, 0), (1, 1)), ((1, 0), (0, 0)), ((1, 0), (1, 1))))
        self.assertEqual([reason(SLAB, 1, own) for own in told_pairs(SLAB, 1)[:3]], [("run", 0), ("run", 0), ("foot",)])

    def test_a_row_that_is_not_told(self):
        self.assertEqual(told_pairs(PIT, 3), tuple(sorted(reasons_plainly(PIT, 3))))
        self.assertIs(is_ring(PIT, 3, told_ring(PIT, 3)), True)
        self.assertEqual(layings_plainly(PIT, 3), [])

    def test_rings_go_round(self):
        for floor, size in clear(6, (2, 3)):
            ring = told_ring(floor, size)
            if ring is not None:
                self.assertIs(is_ring(floor, size, ring), True)
                pairs = told_pairs(floor, size)
                self.assertTrue(all([(ring[at - 1], ring[at]) in pairs for at in range(len(ring))]))

    def test_rings_of_the_fewest_names(self):
        for floor, size in clear(6, (2, 3)):
            ring = told_ring(floor, size)
            if ring is not None:
                pairs, called = set(told_pairs(floor, size)), names_of(floor, size)
                for many in range(1, len(ring) + 1):
                    for names in permutations(called, many) if many < 4 else ():
                        fits = {(names[at - 1], names[at]) for at in range(many)} <= pairs
                        self.assertIs(is_ring(floor, size, names), fits)
                        self.assertFalse(fits and many < len(ring))


class Rings(unittest.TestCase):
    def test_of_two_and_of_three(self):
        self.assertEqual(sorted(told_ring(KNOT, 3)), [(1, 0), (2, 0)])
        self.assertEqual(sorted(told_ring(KNOT2, 2)), [(1, 0), (2, 0), (3, 0)])
        for at in range(3):
            ring = ((1, 0), (3, 0), (2, 0))
            self.assertIs(is_ring(KNOT2, 2, ring[at:] + ring[:at]), True)
            self.assertIs(is_ring(KNOT2, 2, (ring[at:] + ring[:at])[::-1]), False)
        self.assertIs(is_ring(KNOT, 3, ((1, 0), (2, 0))), True)

    def test_things_that_are_none(self):
        for thing in (None, True, 0, "", "ab", (), [], ((1, 0),), ((2, 0),), ((1, 0), (1, 0)), [(1, 0), (2, 0)],
                      ([1, 0], (2, 0)), ((1, 0), [2, 0]), ((True, 0), (2, 0)), ((1, False), (2, 0)),
                      ((1, 0), (2, 0), (1, 0), (2, 0)), ((1, 0), (2, 0), (2, 0)), ((1, 0), (3, 0)), ((1, 0), (2, 1)),
                      ((1, 0), None), ((1, 0), (2, 0), ()), ((1, 0, 0), (2, 0)), (1, 2), ("10", "20"),
                      ((10 ** 30, 0), (2, 0)), (((1, 0), (2, 0)),), ("ring", ((1, 0), (2, 0))), ((1, "0"), (2, 0))):
            self.assertIs(is_ring(KNOT, 3, thing), False, thing)
        for thing in (((1, 0), (3, 0)), ((1, 0), (2, 0), (3, 0)), ((3, 0), (2, 0)), ()):
            self.assertIs(is_ring(KNOT2, 2, thing), False, thing)

    def test_none_where_it_can_be_laid(self):
        for thing in ((), ((0, 0), (1, 0)), ((0, 0), (3, 0)), ((0, 0),)):
            self.assertIs(is_ring(BENCH, 3, thing), False)

    def test_what_bars(self):
        for floor, size in ((CORNER, 3), (SLAB, 4), (STRAIT, 3), (SLAB, 60)):
            for function in FUNCTIONS:
                with self.assertRaises(CanNot):
                    function(floor, size)
        for thing in (None, (), [((0, 0), (1, 0))], "ab", True):
            with self.assertRaises(CanNot):
                is_ring(STRAIT, 3, thing)

    def test_wrong(self):
        for floor, size in ((SLAB, 0), (SLAB, -1), (SLAB, None), (SLAB, True), (SLAB, "2"), ((), 2), (None, 2),
                            (SLAB[::-1], 2), (((0, 0), (1, 1)), 1), (CORNER, 0), (STRAIT[::-1], 3), ("ab", 0)):
            for function in FUNCTIONS:
                with self.assertRaises(Unfit, msg=(floor, size)):
                    function(floor, size)
        for thing in (None, (), [], "ab"):
            with self.assertRaises(Unfit):
                is_ring(KNOT, 0, thing)

    def test_as_great_as_the_bounds(self):
        for size in range(1, 7):
            floor = block_of(8, 5) if size in (1, 2, 4, 5) else block_of(6, 6)
            self.assertIsNone(told_ring(floor, size))
            ways = ways_plainly(told_pairs(floor, size))
            self.assertFalse(any([name == other for name, other in ways]))


if __name__ == "__main__":
    unittest.main()
