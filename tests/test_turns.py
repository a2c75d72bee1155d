"""Point [14]: TURNS and PLANS, over all LAYINGS of small FLOORS, greater ones by chance, and at the edges."""

import random
import unittest
from itertools import product

from stairlaid.cans import lay
from stairlaid.errors import Broken, CanNot, NoName, Unfit
from stairlaid.layings import is_laying, names
from stairlaid.turns import (apart, behind, between, can_turn, fewest, is_plan, plan, turned, turned_steps, turns)
from tests.made import (block_of, cells_plainly, floors, laid, layings_plainly, named_plainly, order_plainly,
                        ways_plainly, wild)

SLAB, BLOCK = block_of(3, 2), block_of(3, 3)
BEDS = tuple([((0, y), (0, 0)) for y in (0, 1, 2)])
POSTS = tuple([((x, 0), (1, 1)) for x in (0, 1, 2)])
WAY = (((1, 0), (0, 0)), ((2, 0), (0, 0)), ((2, 0), (1, 0)))
NO_LAYINGS = ((), None, True, "ab", BEDS[::-1], (((0, 0), (0,)), ((0, 0), (1,))), (BEDS[0], BEDS[2]))


def turned_plainly(laying, pair):
    """The LAYING behind a TURN by the words; None if the pair is none."""
    named, (name, other) = named_plainly(laying), pair
    size, order = len(laying[0][1]) + 1, order_plainly(laying)
    if name[0] == other[0] or abs(name[0] - other[0]) >= size or pair not in order:
        return None
    own = {sum(cell): cell for cell in cells_plainly(named[name])}
    its = {sum(cell): cell for cell in cells_plainly(named[other])}
    for number in set(own) & set(its):
        own[number], its[number] = its[number], own[number]
    come = dict(named)
    for called, cells in ((name, own), (other, its)):
        row = [cells[number] for number in sorted(cells)]
        steps = [(b[0] - a[0], b[1] - a[1]) for a, b in zip(row, row[1:])]
        if not set(steps) <= {(0, 1), (1, 0)}:
            return None
        come[called] = (row[0], tuple([up for _, up in steps]))
    return tuple(sorted(come.values()))


def families(most=6, many=60):
    """(FLOOR, size, all LAYINGS) of FLOORS with two LAYINGS or more, not too many."""
    rows = [(floor, size) for floor in floors(most) for size in (2, 3, 4)]
    rows += [(floor, size) for size in (2, 3, 4) for floor in wild(many, size)]
    rows += [(block_of(4, 3), 3), (block_of(4, 3), 2), (block_of(4, 3), 4), (block_of(5, 2), 5)]
    told = [(floor, size, layings_plainly(floor, size)) for floor, size in rows]
    return [row for row in told if 2 <= len(row[2]) <= 30]


def steps_from(layings, laying):
    """How many TURNS lead to each LAYING, at the fewest, by a search that goes on from this one."""
    told, fresh = {laying: 0}, [laying]
    while fresh:
        own = fresh.pop(0)
        for pair in order_plainly(own):
            come = turned_plainly(own, pair)
            if come is not None and come not in told:
                told[come] = told[own] + 1
                fresh.append(come)
    return told


class Turns(unittest.TestCase):
    def test_all_layings(self):
        many, others = 0, [(floor, size, laying) for floor, size, layings in families() for laying in layings]
        for floor, size, laying in laid(5) + others:
            come = {pair: turned_plainly(laying, pair) for pair in product(named_plainly(laying), repeat=2)}
            told = tuple(sorted([pair for pair in come if come[pair] is not None]))
            self.assertEqual(turns(laying), told)
            for pair in come:
                self.assertIs(can_turn(laying, pair), pair in told)
                if pair in told:
                    many += 1
                    self.assertEqual(turned(laying, pair), come[pair])
                    self.assertIs(is_laying(floor, size, come[pair]), True)
                else:
                    for function in (turned, turned_steps):
                        with self.assertRaises(CanNot):
                            function(laying, pair)
        self.assertGreater(many, 200)

    def test_what_changes(self):
        for _, size, layings in families():
            for laying in layings:
                for pair in turns(laying):
                    self.changes(size, laying, pair)

    def changes(self, size, laying, pair):
        ahead, come = named_plainly(laying), named_plainly(turned(laying, pair))
        number, its, was = turned_steps(laying, pair)
        for name in ahead:
            cell, steps = ahead[name]
            if name in pair:
                at = (number if name == pair[0] else its) - 1
                self.assertEqual(steps[at], was)
                steps = (*steps[:at], 1 - was, *steps[at + 1:])
                # The numbers are those of the feet, how far they are from one another.
                step = abs(pair[0][0] - pair[1][0])
                self.assertEqual(at + 1, step if name == min(pair) else size - step)
            self.assertEqual(come[name][1], steps)
            self.assertTrue(come[name][0] == cell or name == max(pair))
        order, later = order_plainly(laying), order_plainly(turned(laying, pair))
        self.assertEqual(order - later, {pair})
        self.assertEqual(later - order, {pair[::-1]})
        self.assertEqual(turned(turned(laying, pair), pair[::-1]), laying)

    def test_one_stair_and_size_1(self):
        self.assertEqual((turns((((5, 5), (0, 1)),)), turns(tuple([(cell, ()) for cell in SLAB]))), ((), ()))
        self.assertIs(can_turn((((5, 5), (0, 1)),), ((10, 0), (10, 0))), False)

    def test_just_size_apart(self):
        row = tuple([((x, 0), (0,)) for x in (0, 2, 4)])
        self.assertEqual(turns(row), ())
        self.assertEqual([can_turn(row, pair) for pair in (((0, 0), (2, 0)), ((2, 0), (0, 0)), ((0, 0), (4, 0)))],
                         [False] * 3)

    def test_no_name(self):
        for pair, told in ((((0, 0), (0, 1)), (0, 1)), (((9, 9), (0, 1)), (9, 9)), (((0, 0), (True, 0)), (True, 0)),
                           ([[0, 0], [0, 1]], (0, 1)), ((None, (0, 0)), None), (((0, 0), (0,)), (0,)),
                           (((0, 5), (0, 5)), (0, 5))):
            for function in (can_turn, turned, turned_steps, lambda laying, pair: between(laying, *pair)):
                with self.assertRaises(NoName) as caught:
                    function(BEDS, pair)
                self.assertEqual(repr(caught.exception.name), repr(told))

    def test_wrong(self):
        for wrong in NO_LAYINGS:
            for function in (turns, lambda laying: can_turn(laying, ((9, 9), (9, 9))),
                             lambda laying: turned(laying, ((9, 9), (9, 9))),
                             lambda laying: turned_steps(laying, ((9, 9), (9, 9))),
                             lambda laying: between(laying, (9, 9), (9, 9)),
                             lambda laying: behind(laying, ()), lambda laying: behind(laying, (((9, 9), (9, 9)),))):
                with self.assertRaises(Unfit):
                    function(wrong)


class Between(unittest.TestCase):
    def test_all_layings(self):
        for _, _, laying in laid(6):
            called, ways = list(named_plainly(laying)), ways_plainly(order_plainly(laying))
            for name in called:
                for other in called:
                    told = [middle for middle in called if (name, middle) in ways and (middle, other) in ways]
                    self.assertEqual(between(laying, name, other), tuple(told))

    def test_over_more_than_size(self):
        # Feet 0, 2, 4 by size 2: the first and the last are not AHEAD of one another, but by a row.
        row = tuple([((x, 0), (0,)) for x in (0, 2, 4, 6)])
        self.assertEqual(between(row, (0, 0), (6, 0)), ((2, 0), (4, 0)))
        self.assertEqual((between(row, (0, 0), (4, 0)), between(row, (4, 0), (0, 0)), between(row, (0, 0), (2, 0)),
                          between(row, (2, 0), (2, 0))), (((2, 0),), (), (), ()))


class Plans(unittest.TestCase):
    def test_as_many_turns_as_fewest_and_no_fewer(self):
        for _, size, layings in families():
            for laying in layings[:6]:
                known = steps_from(layings, laying)
                self.assertEqual(sorted(known), layings)
                for other in layings:
                    self.leads(laying, other, known[other])

    def leads(self, laying, other, many):
        own, its = order_plainly(laying), order_plainly(other)
        self.assertEqual(apart(laying, other), tuple(sorted({(min(pair), max(pair)) for pair in own - its})))
        self.assertEqual((fewest(laying, other), fewest(other, laying)), (many, many))
        way = plan(laying, other)
        self.assertEqual((type(way), len(way), behind(laying, way)), (tuple, many, other))
        self.assertIs(is_plan(laying, other, way), True)
        for at in range(many):
            self.assertIs(is_plan(laying, other, way[:at] + way[at + 1:]), False)
            self.assertIs(is_plan(laying, other, (*way[:at], way[at], way[at][::-1], *way[at:])), True)

    def test_none_and_there_and_back(self):
        for laying in (BEDS, POSTS, (((5, 5), ()),)):
            self.assertEqual((apart(laying, laying), fewest(laying, laying), plan(laying, laying)), ((), 0, ()))
            self.assertEqual((behind(laying, ()), behind(laying, []), is_plan(laying, laying, ())), (laying, laying, True))
        self.assertIs(is_plan(BEDS, BEDS, (WAY[0], WAY[0][::-1])), True)
        self.assertIs(is_plan(BEDS, POSTS, ()), False)
        self.assertIs(is_plan(BEDS, POSTS, (*WAY, *[pair[::-1] for pair in WAY[::-1]])), False)
        self.assertIs(is_plan(BEDS, POSTS, (*WAY, *(*[pair[::-1] for pair in WAY[::-1]], *WAY) * 50)), True)

    def test_things_that_are_no_plan(self):
        for thing in (None, True, 0, "", "ab", [], list(WAY), (list(WAY[0]), *WAY[1:]), (([1, 0], (0, 0)), *WAY[1:]),
                      (((True, 0), (0, 0)), *WAY[1:]), (((1, 0), (False, 0)), *WAY[1:]), (*WAY, None), (*WAY, ()),
                      (*WAY, ((1, 0),)), ((*WAY[0], (0, 0)), *WAY[1:]), (WAY[1], WAY[0], WAY[2]), WAY[:2], WAY[1:], WAY[0], (WAY,),
                      (*WAY, ((9, 9), (0, 0))), (*WAY, ((0, 0), (0, 0))), (((1, 0), (0, 1)), *WAY[1:]), ("ab", "cd"),
                      (((10 ** 30, 0), (0, 0)),), ((1, 0), (0, 0)), (((1, "0"), (0, 0)), *WAY[1:])):
            self.assertIs(is_plan(BEDS, POSTS, thing), False, thing)

    def test_broken(self):
        for given, told in ((WAY[1:], 0), ((WAY[0], WAY[0]), 1), ((*WAY, WAY[0]), 3), ((WAY[0], WAY[2]), 1),
                            ((WAY[0], ((0, 0), (7, 7))), 1), ((((7, 7), (0, 0)), WAY[1]), 0), ((((0, 0), (0, 0)),), 0),
                            ([[[1, 0], [0, 0]], [[1, 0], [0, 0]]], 1), ((WAY[0], WAY[1], ((2, 0), (True, 0))), 2)):
            with self.assertRaises(Broken) as caught:
                behind(BEDS, given)
            self.assertEqual(vars(caught.exception), {"place": told})
        self.assertEqual(behind(BEDS, [[list(name) for name in pair] for pair in WAY]), POSTS)

    def test_both_of_one_floor_and_size(self):
        other_size, other_floor = tuple([(cell, ()) for cell in BLOCK]), BEDS[:2]
        elsewhere = tuple([((x + 1, y), steps) for (x, y), steps in BEDS])
        for function in (apart, fewest, plan, lambda laying, other: is_plan(laying, other, None)):
            for other in (other_size, other_floor, elsewhere, *NO_LAYINGS):
                for laying, its in ((BEDS, other), (other, BEDS)):
                    with self.assertRaises(Unfit):
                        function(laying, its)

    def test_as_great_as_the_bounds(self):
        chance = random.Random(14)
        for size in range(1, 7):
            floor = block_of(8, 5) if size in (1, 2, 4, 5) else block_of(6, 6)
            laying = other = lay(floor, size)
            for _ in range(60 if size > 1 else 0):
                other = turned(other, chance.choice(turns(other)))
            way = plan(laying, other)
            self.assertEqual((len(way), behind(laying, way)), (fewest(laying, other), other))
            self.assertEqual(fewest(laying, other) > 0, size > 1)
            self.assertEqual([name for name, _ in names(laying)], [name for name, _ in names(other)])


if __name__ == "__main__":
    unittest.main()
