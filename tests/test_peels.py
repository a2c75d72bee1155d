"""Point [12]: peelings, over all small FLOORS and LAYINGS, all rows of feet, and at the edges."""

import unittest
from itertools import permutations, product

from stairlaid.cells import diagonal
from stairlaid.errors import Broken, CanNot, TooMany, Unfit
from stairlaid.layings import floor_of, names
from stairlaid.peels import first_cells, first_ones, laid_by, least_row, rows, rows_alike
from tests.made import (block_of, cells_plainly, floors, laid, layings_plainly, named_plainly, order_plainly, place,
                        wild)

SLAB, CORNER, BLOCK = block_of(3, 2), ((0, 0), (0, 1), (1, 0)), block_of(3, 3)
FLAT = (((0, 0), (0, 0)), ((0, 1), (0, 0)), ((0, 2), (0, 0)))
STRIP = (*FLAT, ((3, 0), (1, 1)))
WIDE = FLAT + tuple([((3, y), (0, 0)) for y in range(3)])


def rows_plainly(laying):
    """All ROWS: STAIR by STAIR, whoever has nobody AHEAD that is left."""
    order = order_plainly(laying)

    def on(left):
        if not left:
            return [()]
        free = [name for name in left if not any([(other, name) in order for other in left])]
        return [(name[0], *row) for name in free for row in on(left - {name})]
    return sorted(on(frozenset(named_plainly(laying))))


def peeled_plainly(floor, size, row):
    """The LAYING by the words, or the place at which it breaks, or None if CELLS are left."""
    left, stairs = set(floor), []
    for at, foot in enumerate(row):
        own = [min([cell for cell in left if sum(cell) == foot + i], key=place, default=None) for i in range(size)]
        if None in own:
            return at
        steps = [(b[0] - a[0], b[1] - a[1]) for a, b in zip(own, own[1:])]
        left -= set(own)
        ahead = [cell for cell in left if sum(cell) == foot + size and place(cell) < place(own[-1])]
        ahead += [cell for cell in left if sum(cell) == foot - 1 and place(cell) < place(own[0])]
        if ahead or not set(steps) <= {(1, 0), (0, 1)}:
            return at
        stairs.append((own[0], tuple([up for _, up in steps])))
    return None if left else tuple(sorted(stairs))


def all_rows(floor, size, most):
    """All rows of feet with about as many as the FLOOR can have STAIRS, if they are not too many."""
    feet = range(min([sum(cell) for cell in floor]), max([sum(cell) for cell in floor]) + 2)
    found = []
    for many in range(len(floor) // size + 2):
        if len(feet) ** many <= most:
            found += product(feet, repeat=many)
    return found


class FirstOnes(unittest.TestCase):
    def test_all_layings(self):
        for _, _, laying in laid(6):
            order = order_plainly(laying)
            self.assertEqual(first_ones(laying), tuple([name for name in named_plainly(laying)
                                                        if not any([behind == name for _, behind in order])]))

    def test_they_have_the_first_cells(self):
        for floor, size, laying in laid(6):
            for name in first_ones(laying):
                own = cells_plainly(dict(names(laying))[name])
                self.assertEqual(own, first_cells(floor, size, name[0]))
                for number, cell in ((name[0] + size, own[-1]), (name[0] - 1, own[0])):
                    self.assertFalse(any([place(near) < place(cell) for near in diagonal(floor, number)]))

    def test_one_stair_and_several(self):
        self.assertEqual((first_ones((((5, 5), ()),)), first_ones(FLAT)), (((10, 0),), ((2, 0),)))
        # They are more than size apart: none of both can be AHEAD.
        apart = tuple([((x, 0), ()) for x in range(3)])
        self.assertEqual(first_ones(apart), ((0, 0),))


class Rows(unittest.TestCase):
    def test_all_layings(self):
        for floor, size, laying in laid(6):
            known = rows_plainly(laying)
            self.assertEqual(rows(laying), known)
            self.assertIs(type(rows(laying)), list)
            self.assertEqual(least_row(laying), known[0])
            for row in known:
                self.assertEqual(laid_by(floor, size, row), laying)

    def test_greater_ones(self):
        many = 0
        for size in (2, 3, 4):
            for floor in wild(80, size):
                for laying in layings_plainly(floor, size)[:3]:
                    known = rows_plainly(laying)
                    self.assertEqual(least_row(laying), known[0])
                    if len(known) <= 400:
                        self.assertEqual(rows(laying), known)
                        self.assertEqual({laid_by(floor, size, row) for row in known}, {laying})
                        many += len(known)
        self.assertGreater(many, 200)

    def test_edges(self):
        self.assertEqual((rows((((5, 5), ()),)), least_row((((5, 5), ()),))), ([(10,)], (10,)))
        self.assertEqual((rows(FLAT), least_row(STRIP)), ([(2, 1, 0)], (2, 1, 0, 3)))

    def test_just_400_and_more(self):
        just = ((-2, 1), (-1, 0), (-1, 1), (0, 0), (0, 1), (1, 1), (1, 2), (2, 2), (3, 2))
        more = ((-2, 0), (-1, 0), (-1, 1), (-1, 2), (0, -1), (0, 0), (0, 1), (1, 0), (1, 1), (1, 2), (2, 0))
        for cells, many in ((just, 400), (more, 401)):
            laying = tuple([(cell, ()) for cell in cells])
            known = rows_plainly(laying)
            self.assertEqual((len(known), least_row(laying)), (many, known[0]))
            if many == 400:
                self.assertEqual(rows(laying), known)
            else:
                with self.assertRaises(TooMany):
                    rows(laying)

    def test_far_too_many(self):
        for floor, size in ((block_of(8, 5), 1), (block_of(8, 5), 2), (block_of(4, 10), 2)):
            laying = tuple([(cell, (0,) * (size - 1)) for cell in floor if cell[0] % size == 0])
            with self.assertRaises(TooMany):
                rows(laying)
            self.assertEqual(laid_by(floor, size, least_row(laying)), laying)

    def test_wrong(self):
        for wrong in ((), None, True, "ab", FLAT[::-1], (((0, 0), (0,)), ((0, 0), (1,))), (FLAT[0], FLAT[2])):
            for function in (first_ones, rows, least_row):
                with self.assertRaises(Unfit):
                    function(wrong)


class FirstCells(unittest.TestCase):
    def test_all_floors(self):
        for floor in floors(6):
            for size in range(1, 5):
                for foot in range(-2, 9):
                    own = [diagonal(floor, foot + i)[:1] for i in range(size)]
                    if () in own:
                        with self.assertRaises(CanNot):
                            first_cells(floor, size, foot)
                    else:
                        self.assertEqual(first_cells(floor, size, foot), sum(own, ()))

    def test_far_away(self):
        for foot in (3, -1, 10 ** 6, -10 ** 6):
            with self.assertRaises(CanNot):
                first_cells(BLOCK, 3, foot)

    def test_wrong(self):
        for floor, size in ((SLAB, 0), (SLAB, None), (SLAB, True), ((), 2), (None, 2), (SLAB[::-1], 2),
                            (((0, 0), (1, 1)), 1), ("ab", 0)):
            for function in (first_cells, lambda floor, size, foot: laid_by(floor, size, (foot,))):
                with self.assertRaises(Unfit, msg=(floor, size)):
                    function(floor, size, 99)
        for size in (0, -1, None, True, "2"):
            for other in ((), (9,)):
                with self.assertRaises(Unfit):
                    rows_alike(size, (), other)


class LaidBy(unittest.TestCase):
    def test_all_rows_of_feet(self):
        many = {}
        for floor in floors(6):
            for size in (1, 2, 3, 4):
                known = {row: laying for laying in layings_plainly(floor, size) for row in rows_plainly(laying)}
                for row in all_rows(floor, size, 220):
                    told = peeled_plainly(floor, size, row)
                    if type(told) is tuple:
                        self.assertEqual((laid_by(floor, size, row), known[row]), (told, told))
                    else:
                        self.assertNotIn(row, known)
                        self.refused(floor, size, row, told)
                    many[type(told)] = many.get(type(told), 0) + 1
        self.assertTrue(all([many[kind] > 200 for kind in (tuple, int, type(None))]), many)

    def refused(self, floor, size, row, place_told):
        with self.assertRaises(Unfit if place_told is None else Broken) as caught:
            laid_by(floor, size, row)
        if place_told is not None:
            self.assertEqual(vars(caught.exception), {"place": place_told})

    def test_each_of_the_three_looks(self):
        # One of the diagonals has no CELL left.
        self.refused(SLAB, 3, (0, 1, 0), 2)
        self.refused(SLAB, 3, (-1,), 0)
        self.refused(SLAB, 3, (2,), 0)
        # (1, 0) and (0, 2) are no STAIR.
        self.refused(((0, 2), (1, 0), (1, 1), (1, 2)), 2, (1, 2), 0)
        # (0, 2) is left, behind (0, 1) by its diagonal, ahead of it by its place.
        self.refused(((0, 0), (0, 1), (0, 2), (1, 0)), 2, (0, 1), 0)
        self.refused(((0, 0), (0, 1)), 1, (0, 1), 0)
        # (0, 1) is left, a diagonal ahead of (1, 1), at a lesser place.
        self.refused(((0, 1), (1, 1)), 1, (2, 1), 0)
        self.refused(floor_of(STRIP), 3, (2, 3, 0, 1), 1)

    def test_cells_left(self):
        for row in ((), (2,), (2, 1)):
            self.refused(BLOCK, 3, row, None)
        # What breaks it comes first.
        self.refused(BLOCK, 3, (2, 9), 1)
        self.refused(BLOCK, 3, (2, 1, 0, 0), 3)

    def test_lists(self):
        self.assertEqual(laid_by([list(cell) for cell in BLOCK], 3, [2, 1, 0]), FLAT)


class RowsAlike(unittest.TestCase):
    def test_by_exchanges(self):
        for size in (1, 2, 3):
            for row in [row for many in range(5) for row in product((0, 1, 2, 5), repeat=many)]:
                reached, fresh = {row}, [row]
                while fresh:
                    own = fresh.pop()
                    for at in range(len(own) - 1):
                        turned = (*own[:at], own[at + 1], own[at], *own[at + 2:])
                        if abs(own[at] - own[at + 1]) > size and turned not in reached:
                            reached.add(turned)
                            fresh.append(turned)
                for other in set(permutations(row)):
                    self.assertIs(rows_alike(size, row, other), other in reached, (size, row, other))

    def test_of_one_laying(self):
        for floor in wild(60, 2):
            known = {row: laying for laying in layings_plainly(floor, 2)[:4] for row in rows_plainly(laying)[:6]}
            for row in known:
                for other in known:
                    self.assertIs(rows_alike(2, row, other), known[row] == known[other])

    def test_just_size_apart_and_more(self):
        for row, other, told in (((0, 3), (3, 0), False), ((0, 4), (4, 0), True), ((), (), True), ((1,), (), False),
                                 ((), (1,), False), ((1,), (1, 1), False), ((1, 1), (1,), False), ((1,), (2,), False),
                                 ((0, 9, 0), (0, 0, 9), True), ((-5, 5), (5, -5), True), ((4, 0, 4), (4, 4, 0), True)):
            self.assertIs(rows_alike(3, row, other), told, (row, other))
            self.assertIs(rows_alike(3, list(row), list(other)), told)


if __name__ == "__main__":
    unittest.main()
