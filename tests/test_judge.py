"""Point [20]: CLAIMS, PAPERS and REASONS of each kind, over small FLOORS, greater ones by chance, and at the edges."""

import unittest
from itertools import combinations, permutations

from stairlaid.cans import bar, is_bar, lay
from stairlaid.errors import Unfit
from stairlaid.judge import (first_fallen, is_claim, is_paper_against, is_reason_for, is_so, paper_against, reason_for)
from stairlaid.told import told_pairs
from stairlaid.turns import apart, behind, is_plan, plan, turns
from tests.made import (BARRED, JUST_401, NO_FLOORS, NO_LAYINGS, NO_PAIRS, NO_SIZES, block_of, families, laid_ones,
                        named_plainly, order_plainly)
from tests.test_shapes import sums_plainly

SLAB, CORNER, BLOCK, BENCH = block_of(3, 2), ((0, 0), (0, 1), (1, 0)), block_of(3, 3), block_of(4, 3)
KNOT = ((0, 1), (1, 1), (2, 0), (2, 1), (2, 2), (3, 0))
UPRIGHT, FLATTER = (((0, 0), (1,)), ((1, 0), (1,)), ((2, 0), (1,))), (((0, 0), (1,)), ((1, 0), (0,)), ((1, 1), (0,)))
BEDS, POSTS = tuple([((0, y), (0, 0)) for y in (0, 1, 2)]), tuple([((x, 0), (1, 1)) for x in (0, 1, 2)])
WAY = (((1, 0), (0, 0)), ((2, 0), (0, 0)), ((2, 0), (1, 0)))
CLAIMS = (("can", SLAB, 2), ("can", SLAB, 4), ("ahead", SLAB, 2, (0, 0), (2, 0)), ("ahead", SLAB, 2, (0, 0), (1, 0)),
          ("turns", BEDS, POSTS, 3), ("turns", BEDS, POSTS, 2), ("sums", SLAB, 3, (0,)), ("sums", SLAB, 3, (1,)))
STAND = (True, False, True, False, True, False, True, False)
# What is neither a PAPER nor a REASON, whatever is claimed.
NEITHER = (None, True, 0, "", "ab", [], (None,), ("can",), ((),), ("count",), ("count", None), ("rim", (True, 0)),
           ("ring", None), (((0, 0), (1, 0)), None), (((0, 0), (True,)),), ((0, 0),))


def claims_ahead(floor, size, layings):
    """For all pairs of unlike NAMES with feet at most size apart, whether the first is AHEAD in each LAYING."""
    orders, called = [order_plainly(laying) for laying in layings], list(named_plainly(layings[0]))
    return {(name, other): all([(name, other) in order for order in orders]) for name, other in permutations(called, 2)
            if abs(name[0] - other[0]) <= size}


class Judged(unittest.TestCase):
    def judged(self, claim, stands, papers, reasons):
        """That the claim stands, or not, and what is a PAPER against it, a REASON for it, of these things."""
        self.assertIs(is_claim(claim), True)
        self.assertIs(is_so(claim), stands)
        paper, reason = paper_against(claim), reason_for(claim)
        self.assertEqual((paper is None, reason is None), (stands, not stands))
        if stands:
            self.assertIs(is_reason_for(claim, reason), True)
            self.assertIs(is_paper_against(claim, reason), False)
        else:
            self.assertIs(is_paper_against(claim, paper), True)
            self.assertIs(is_reason_for(claim, paper), False)
        for thing, told in papers:
            self.assertIs(is_paper_against(claim, thing), told and not stands)
        for thing, told in reasons:
            self.assertIs(is_reason_for(claim, thing), told and stands)


class Can(Judged):
    def test_floors(self):
        kinds = {}
        for floor, size, layings in families(5, 6):
            told = None if layings else bar(floor, size)
            papers = [(thing, not layings and is_bar(floor, size, thing)) for thing in
                      (told, ("count", floor[0][0]), ("count", sum(floor[-1])), ("rim", floor[0]), ("rim", floor[-1]))]
            bent = [laying[::-1] for laying in layings[:1] if len(laying) > 1] + [laying[1:] for laying in layings[:1]]
            reasons = [(laying, True) for laying in layings[:3]] + [(laying, False) for laying in bent]
            self.judged(("can", floor, size), bool(layings), papers, reasons)
            kinds[told and told[0]] = True
        self.assertEqual(set(kinds), {None, "count", "rim", "ring"})

    def test_a_bar_of_each_kind(self):
        for (floor, size), kind in zip(BARRED, ("count", "rim", "ring")):
            claim = ("can", floor, size)
            told = paper_against(claim)
            self.assertEqual(told[0], kind)
            self.judged(claim, False, [(told, True), (told[1:], False), ((*told, 0), False), ((kind, None), False),
                                       (("no", told[1]), False), (list(told), False)], [(None, True)])

    def test_another_laying_is_none(self):
        self.judged(("can", SLAB, 2), True, [(UPRIGHT, True)],
                    [(UPRIGHT, True), (FLATTER, True), (BEDS, False), (UPRIGHT[:2], False), (list(UPRIGHT), False)])


class Ahead(Judged):
    def test_floors(self):
        kinds = {True: 0, False: 0}
        for floor, size, layings in laid_ones(6, 6, least=2):
            told = claims_ahead(floor, size, layings)
            for (name, other), stands in list(told.items())[::max(1, len(told) // 8)]:
                kinds[stands] += 1
                papers = [(laying, (name, other) not in order_plainly(laying)) for laying in layings[:3]]
                self.judged(("ahead", floor, size, name, other), stands, papers, [((name, other), (name, other) in
                                                                                   told_pairs(floor, size))])
        self.assertGreater(min(kinds.values()), 20)

    def test_all_rows_of_names(self):
        for floor, size in ((SLAB, 2), (block_of(4, 2), 2), (block_of(4, 3), 2), (BENCH, 3)):
            pairs, called = told_pairs(floor, size), list(named_plainly(lay(floor, size)))
            for name, other in pairs:
                claim = ("ahead", floor, size, name, other)
                for many in range(4):
                    for row in permutations(called, many):
                        told = many >= 2 and row[0] == name and row[-1] == other and all(
                            [pair in pairs for pair in zip(row, row[1:])])
                        self.assertIs(is_reason_for(claim, row), told)

    def test_over_others(self):
        # Feet 0, 1, 2, 3 of a row of CELLS by size 1: all told, but each next one alone.
        row = tuple([(x, 0) for x in range(4)])
        self.assertEqual([is_so(("ahead", row, 1, (x, 0), (x + 1, 0))) for x in range(3)], [True] * 3)
        square = block_of(4, 4)
        for name, other in (((2, 0), (2, 1)), ((2, 0), (0, 0)), ((0, 0), (2, 1))):
            claim = ("ahead", square, 2, name, other)
            self.assertEqual((is_so(claim), is_so(("ahead", square, 2, other, name))), (True, False))
            self.assertIs(is_reason_for(claim, reason_for(claim)), True)
        self.assertIs(is_reason_for(("ahead", square, 2, (2, 0), (2, 1)), ((2, 0), (0, 0), (2, 1))), True)
        self.assertIs(is_reason_for(("ahead", square, 2, (2, 0), (2, 1)), ((2, 0), (2, 1))), True)

    def test_bent_things(self):
        claim = ("ahead", SLAB, 2, (0, 0), (2, 0))
        for thing in (((0, 0),), ((2, 0), (0, 0)), [(0, 0), (2, 0)], ([0, 0], (2, 0)), ((0, 0), (2, False)),
                      ((False, 0), (2, 0)), ((0, 0), (1, 0), (2, 0)), ((0, 0), (2, 0), (2, 0)), ((0, 0), (0, 0), (2, 0)), (),
                      ((0, 0), None), *NEITHER):
            self.assertIs(is_reason_for(claim, thing), False, thing)
        self.assertIs(is_reason_for(claim, ((0, 0), (2, 0))), True)


class Turns(Judged):
    def test_layings(self):
        kinds = {True: 0, False: 0}
        for _, _, layings in laid_ones(6, 6, least=2):
            for laying, other in ((layings[0], layings[-1]), (layings[-1], layings[0]), (layings[0], layings[0])):
                pairs, way = apart(laying, other), plan(laying, other)
                for number in (0, len(pairs) - 1, len(pairs), len(pairs) + 1):
                    if number >= 0:
                        kinds[len(pairs) <= number] += 1
                        self.turns(laying, other, number, pairs, way)
        self.assertGreater(min(kinds.values()), 100)

    def turns(self, laying, other, number, pairs, way):
        papers = [(own, len(own) == number + 1) for own in (pairs[:number + 1], pairs[:number], pairs[1:number + 2], pairs)]
        papers += [(pairs[number::-1], len(pairs) > number == 0), (list(pairs[:number + 1]), False)]
        back = (*way[:1], way[0][::-1], *way) if way else ()
        reasons = [(way, True), (way[1:], not way), (back, len(back) <= number), (list(way), False)]
        self.judged(("turns", laying, other, number), len(pairs) <= number, papers, reasons)

    def test_all_sets(self):
        pairs = apart(BEDS, POSTS)
        for number in range(5):
            claim = ("turns", BEDS, POSTS, number)
            for many in range(4):
                for own in combinations(pairs, many):
                    self.assertIs(is_paper_against(claim, own), many == number + 1)
                    if many > 1:
                        self.assertIs(is_paper_against(claim, own[::-1]), False)
            for own in (((pairs[0][::-1]),), (pairs[0],) * 2, (((0, 0), (3, 0)),), ((pairs[0][0], (1, False)),)):
                self.assertIs(is_paper_against(claim, own), False)

    def test_papers_of_which_some_pairs_are_none(self):
        first, second, third = apart(BEDS, POSTS)
        claim = ("turns", BEDS, POSTS, 1)
        self.assertIs(is_paper_against(claim, (first, third)), True)
        for thing in ((first, None), (first, (1, 0)), (first, ((9, 9), (9, 9))), (((-9, 0), (9, 9)), third), (first, first),
                      (first, (second[0], (2, False))), (third, first), (first, list(third)), (first, second, third)):
            self.assertIs(is_paper_against(claim, thing), False, thing)

    def test_one_stair(self):
        lone = (((5, 5), (0, 1)),)
        for number in (0, 1):
            self.judged(("turns", lone, lone, number), True, [((), False)], [((), True)])
        for other in ((((5, 5), (1, 0)),), (((6, 5), (0, 1)),), (((5, 5), (0,)),), (((5, 5), ()),)):
            self.assertIs(is_claim(("turns", lone, other, 1)), False)

    def test_all_plans(self):
        # All rows of at most four TURNS, whatever they lead to.
        rows = {(): BEDS}
        for _ in range(4):
            for row, laying in list(rows.items()):
                rows.update({(*row, pair): behind(laying, (pair,)) for pair in turns(laying)})
        for number in range(5):
            for row, laying in rows.items():
                for other in (BEDS, POSTS):
                    self.assertIs(is_reason_for(("turns", BEDS, other, number), row), laying == other and len(row) <= number)

    def test_great_numbers(self):
        claim = ("turns", BEDS, POSTS, 10 ** 30)
        self.judged(claim, True, [(apart(BEDS, POSTS), False)], [(WAY, True), (WAY * 2, False)])
        long = (*WAY, *(*[pair[::-1] for pair in WAY[::-1]], *WAY) * 50)
        self.assertEqual((is_plan(BEDS, POSTS, long), len(long)), (True, 303))
        self.assertEqual([is_reason_for(("turns", BEDS, POSTS, number), long) for number in (302, 303)], [False, True])


class Sums(Judged):
    def test_floors(self):
        for floor, size, layings in laid_ones(5, 6):
            right = sums_plainly(layings[0])
            things = [(laying, True) for laying in layings[:3]]
            bent = [(layings[0][1:], False), (list(layings[0]), False)]
            self.judged(("sums", floor, size, right), True, things, [*things, *bent])
            if right:
                for wrong in ((right[0] + 1, *right[1:]), (*right[:-1], right[-1] - 1), (10 ** 30, *right[1:])):
                    self.judged(("sums", floor, size, wrong), False, [*things, *bent], things)


class Claims(unittest.TestCase):
    def test_things_that_are_claims(self):
        for claim, stands in zip(CLAIMS, STAND):
            self.assertEqual((is_claim(claim), is_so(claim)), (True, stands))
        great = tuple([(x, y) for x in range(12) for y in range(12)])
        for thing in (("can", great, 3), ("can", ((10 ** 20, -3),), 1), ("can", SLAB, 10 ** 20), ("turns", BEDS, BEDS, 0),
                      ("sums", great, 3, (10 ** 20,)), ("sums", BLOCK, 1, ()), ("sums", block_of(5, 1), 5, (0, 0)),
                      ("ahead", great, 3, (0, 0), (3, 0))):
            self.assertIs(is_claim(thing), True, thing[0])

    def test_things_that_are_none(self):
        for thing in (None, True, 0, "", "can", (), [], ("can",), ("can", SLAB), ("can", SLAB, 2, 0), ("Can", SLAB, 2),
                      (None, SLAB, 2), (("can",), SLAB, 2), (["can"], SLAB, 2), ["can", SLAB, 2], (b"can", SLAB, 2),
                      ("cans", SLAB, 2), ("", SLAB, 2), ("can", list(SLAB), 2), ("turns", BEDS, POSTS),
                      ("turns", BEDS, POSTS, 3, 0), ("turns", BEDS, POSTS, -1), ("turns", BEDS, POSTS, True),
                      ("turns", BEDS, POSTS, None), ("turns", BEDS, BEDS[:2], 3), ("turns", BEDS, list(POSTS), 3),
                      ("turns", UPRIGHT, tuple([(cell, ()) for cell in SLAB]), 3), ("turns", BEDS, POSTS[::-1], 3),
                      ("ahead", SLAB, 2, (0, 0)), ("ahead", SLAB, 2, (0, 0), (2, 0), 0), ("ahead", SLAB, 2, (0, 0), (0, 0)),
                      ("ahead", SLAB, 2, (0, 0), (3, 0)), ("ahead", SLAB, 2, (0, 0), [2, 0]), ("ahead", SLAB, 2, (0, 1), (2, 0)),
                      ("ahead", SLAB, 2, (0, 0), (2, 1)), ("ahead", SLAB, 2, (0, 0), (1, 1)), ("ahead", SLAB, 2, (0, 1), (0, 0)),
                      ("ahead", SLAB, 2, (0, 0), (0, 1)), ("ahead", SLAB, 3, (0, 0), (2, 0)), ("ahead", SLAB, 3, (0, 0), (-1, 0)),
                      ("ahead", SLAB, 2, (0, 0), (True, 0)), ("ahead", SLAB, 4, (0, 0), (1, 0)), ("ahead", KNOT, 3, (1, 0), (2, 0)),
                      ("ahead", block_of(6, 1), 2, (0, 0), (4, 0)), ("sums", SLAB, 3), ("sums", SLAB, 3, ()),
                      ("sums", SLAB, 3, (0, 0)), ("sums", SLAB, 3, 0), ("sums", SLAB, 3, [0]), ("sums", SLAB, 3, (False,)),
                      ("sums", SLAB, 3, (None,)), ("sums", SLAB, 2, (0,)), ("sums", SLAB, 4, (0,)), ("sums", CORNER, 3, (0,))):
            self.none(thing)

    def none(self, thing):
        self.assertIs(is_claim(thing), False, thing)
        if thing not in (["can", SLAB, 2], ("can", list(SLAB), 2), ("turns", BEDS, list(POSTS), 3), ("sums", SLAB, 3, [0]),
                         ("ahead", SLAB, 2, (0, 0), [2, 0])):
            for function in (is_so, paper_against, reason_for, lambda claim: is_paper_against(claim, None),
                             lambda claim: is_reason_for(claim, None), lambda claim: first_fallen((claim,))):
                with self.assertRaises(Unfit):
                    function(thing)

    def test_wrong_floors_layings_sizes_names(self):
        for wrong in NO_FLOORS:
            for thing in (("can", wrong, 1), ("ahead", wrong, 1, (0, 0), (1, 0)), ("sums", wrong, 1, ())):
                self.none(thing)
        for wrong in NO_SIZES:
            for thing in (("can", SLAB, wrong), ("ahead", SLAB, wrong, (0, 0), (1, 0)), ("sums", SLAB, wrong, ())):
                self.none(thing)
        for wrong in NO_LAYINGS:
            for thing in (("turns", wrong, POSTS, 1), ("turns", BEDS, wrong, 1), ("turns", wrong, wrong, 1)):
                self.none(thing)
        for wrong in [own for own in NO_PAIRS if own != (0, 0)]:
            for thing in (("ahead", SLAB, 2, wrong, (1, 0)), ("ahead", SLAB, 2, (1, 0), wrong)):
                self.none(thing)

    def test_neither_paper_nor_reason(self):
        for claim in CLAIMS:
            for thing in NEITHER:
                self.assertEqual((is_paper_against(claim, thing), is_reason_for(claim, thing)), (False, False), thing)

    def test_lists(self):
        for claim, stands in zip(CLAIMS, STAND):
            given = eval(repr(claim).replace("(", "[").replace(")", "]").replace(",]", "]"))
            self.assertIs(is_claim(given), False)
            self.assertEqual((is_so(given), paper_against(given), reason_for(given)),
                             (stands, paper_against(claim), reason_for(claim)))
            self.assertIs(is_reason_for(given, reason_for(claim)), stands)
            self.assertIs(is_paper_against(given, paper_against(claim)), not stands)

    def test_more_than_400_layings(self):
        self.assertEqual((is_so(("can", JUST_401, 2)), is_so(("sums", JUST_401, 2, ()))), (True, True))


class FirstFallen(unittest.TestCase):
    def test_places(self):
        good, bad = [claim for claim, stands in zip(CLAIMS, STAND) if stands], CLAIMS[1]
        for at in range(5):
            self.assertEqual(first_fallen((*good[:at], bad, *good[at:], bad)), at)
        for claim, stands in zip(CLAIMS, STAND):
            self.assertEqual(first_fallen((claim,)), None if stands else 0)
        self.assertEqual((first_fallen(()), first_fallen([]), first_fallen(good), first_fallen(tuple(good))), (None,) * 4)
        self.assertEqual(first_fallen([["can", SLAB, 2], ["can", [[0, 0]], 3]]), 1)

    def test_no_claim_ahead_of_all(self):
        for wrong in (None, (), ("can", SLAB, 0), ("can", SLAB), ("ahead", SLAB, 2, (0, 0), (0, 0)), "can"):
            for claims in ((wrong,), (CLAIMS[1], wrong), (wrong, CLAIMS[1]), (CLAIMS[0], CLAIMS[1], CLAIMS[2], wrong)):
                with self.assertRaises(Unfit):
                    first_fallen(claims)


if __name__ == "__main__":
    unittest.main()
