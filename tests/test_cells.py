"""Point [4]: FLOORS, over all small ones and at the edges that the document names."""

import unittest
from itertools import combinations

from stairlaid.cells import borders, can_grow, diagonal, grown, is_floor, shrunk, span
from stairlaid.errors import NoCell, Unfit
from tests.made import block_of, floors, is_floor_plainly, moved, rows_of_cells, sides

SLAB = block_of(3, 2)
CORNER = ((0, 0), (0, 1), (1, 0))
RING = tuple([cell for cell in block_of(3, 3) if cell != (1, 1)])
# Each shuts in (1, 1) though CELLS beside it hang together by a corner alone.
CORNER_RINGS = [tuple([cell for cell in RING if cell != gone]) for gone in ((0, 0), (0, 2), (2, 0), (2, 2))]


def larger(floor, cell):
    return tuple(sorted([*floor, cell]))


class IsFloor(unittest.TestCase):
    def test_all_sets_of_a_block(self):
        for cells in (block_of(3, 3), block_of(4, 3)):
            for many in range(len(cells) + 1):
                for own in combinations(cells, many):
                    self.assertEqual(is_floor(own), is_floor_plainly(own), own)

    def test_all_that_hangs_together(self):
        for many in range(1, 9):
            for cells in rows_of_cells(many):
                self.assertEqual(is_floor(cells), is_floor_plainly(cells), cells)

    def test_hangs_together_by_a_corner_alone(self):
        for thing in (((0, 0), (1, 1)), ((0, 1), (1, 0)), ((0, 0), (0, 1), (1, 2), (1, 3)), ((0, 0), (2, 0))):
            self.assertFalse(is_floor(thing), thing)

    def test_shut_in(self):
        for thing in (RING, *CORNER_RINGS):
            self.assertFalse(is_floor(thing), thing)
        # Two CELLS shut in that touch at a corner, and a hole beside a bay.
        self.assertFalse(is_floor(tuple([cell for cell in block_of(4, 4) if cell not in ((1, 1), (2, 2))])))
        self.assertFalse(is_floor(tuple([cell for cell in block_of(4, 3) if cell not in ((1, 1), (2, 1))])))
        self.assertFalse(is_floor(tuple([cell for cell in block_of(3, 3) if cell not in ((1, 1), (2, 2))])))
        self.assertTrue(is_floor(tuple([cell for cell in block_of(3, 3) if cell not in ((1, 1), (2, 1))])))

    def test_order_and_doubles(self):
        for thing in ((), ((0, 1), (0, 0)), ((1, 0), (0, 0)), ((0, 0), (0, 0)), ((0, 0), (0, 1), (0, 1))):
            self.assertFalse(is_floor(thing), thing)
        self.assertTrue(is_floor(((0, 0), (0, 1))))

    def test_whatever_numbers(self):
        for by in ((10 ** 20, -3), (-10 ** 9, 10 ** 7), (10 ** 200, 10 ** 200)):
            self.assertTrue(is_floor(moved(SLAB, by)))
            self.assertFalse(is_floor(moved(RING, by)))
        self.assertFalse(is_floor(((-10 ** 20, 0), (10 ** 20, 0))))

    def test_however_many_cells(self):
        self.assertTrue(is_floor(block_of(60, 60)))
        self.assertTrue(is_floor(block_of(5000, 1)))
        self.assertFalse(is_floor(tuple([cell for cell in block_of(60, 60) if cell != (30, 30)])))

    def test_lists_are_no_tuples(self):
        for thing in ([(0, 0)], ([0, 0],), [[0, 0]], ((0, 0), [0, 1]), [], [()]):
            self.assertFalse(is_floor(thing), thing)

    def test_what_is_no_number(self):
        for thing in (((True, 0),), ((0, False),), ((0, None),), (("0", 0),), ((0, 0), (0, True)), ((0, (0,)),)):
            self.assertFalse(is_floor(thing), thing)

    def test_any_other_thing(self):
        deep = ()
        for _ in range(11):
            deep = (deep,)
        for thing in (None, True, False, 0, 7, "", "at 0 0", ("ab",), (0, 0), ((0,),), ((0, 0, 0),), ((),), (None,),
                      ((0, 0), 1), ((0, 0), "ab"), (((0, 0),),), deep):
            self.assertIs(is_floor(thing), False, thing)


class Diagonals(unittest.TestCase):
    def test_all_floors(self):
        for floor in floors(6):
            told = [x + y for x, y in floor]
            self.assertEqual(span(floor), (min(told), max(told)))
            for number in range(min(told) - 2, max(told) + 3):
                own = sorted([cell for cell in floor if sum(cell) == number], key=lambda cell: cell[0] - cell[1])
                self.assertEqual(diagonal(floor, number), tuple(own))

    def test_no_cell_there(self):
        self.assertEqual(diagonal(SLAB, -1), ())
        self.assertEqual(diagonal(SLAB, 4), ())
        self.assertEqual(diagonal(SLAB, 10 ** 6), ())

    def test_one_cell(self):
        self.assertEqual(span(((5, -7),)), (-2, -2))
        self.assertEqual(diagonal(((5, -7),), -2), ((5, -7),))
        self.assertEqual(diagonal(((5, -7),), 2), ())

    def test_no_floor(self):
        for wrong in ((), ((0, 0), (1, 1)), RING, None, ((0, 1), (0, 0))):
            with self.assertRaises(Unfit):
                diagonal(wrong, 0)
            with self.assertRaises(Unfit):
                span(wrong)


class Growing(unittest.TestCase):
    def test_all_floors(self):
        for floor in floors(6):
            xs, ys = [x for x, _ in floor], [y for _, y in floor]
            found = []
            for cell in moved(block_of(max(xs) + 5, max(ys) + 5), (-2, -2)):
                fits = cell not in floor and is_floor_plainly(larger(floor, cell))
                self.assertIs(can_grow(floor, cell), fits, (floor, cell))
                if fits:
                    found.append(cell)
                    self.assertEqual(grown(floor, cell), larger(floor, cell))
                else:
                    with self.assertRaises(Unfit):
                        grown(floor, cell)
            self.assertEqual(borders(floor), tuple(found))

    def test_each_grows_on_all_sides(self):
        for floor in floors(7):
            cells = borders(floor)
            self.assertIn(min([x for x, _ in floor]) - 1, [x for x, _ in cells])
            self.assertIn(max([x for x, _ in floor]) + 1, [x for x, _ in cells])
            self.assertIn(min([y for _, y in floor]) - 1, [y for _, y in cells])
            self.assertIn(max([y for _, y in floor]) + 1, [y for _, y in cells])

    def test_one_cell(self):
        self.assertEqual(borders(((3, 3),)), tuple(sorted(sides((3, 3)))))
        self.assertFalse(can_grow(((3, 3),), (4, 4)))
        self.assertEqual(grown(((3, 3),), (2, 3)), ((2, 3), (3, 3)))

    def test_what_would_shut_in(self):
        for floor in CORNER_RINGS:
            gone = [cell for cell in RING if cell not in floor][0]
            for end in [cell for cell in sides(gone) if cell in floor]:
                path = tuple([cell for cell in floor if cell != end])
                # With its end (1, 1) would be open to the outside by a corner alone.
                self.assertIs(can_grow(path, end), False)
                self.assertNotIn(end, borders(path))
                with self.assertRaises(Unfit):
                    grown(path, end)
                self.assertEqual(grown(path, (1, 1)), larger(path, (1, 1)))
        bay = tuple([cell for cell in RING if cell != (1, 0)])
        self.assertFalse(can_grow(bay, (1, 0)))
        self.assertTrue(can_grow(bay, (1, 1)))
        # What is shut in may be of several CELLS.
        bay = tuple([cell for cell in block_of(4, 3) if cell not in ((1, 1), (2, 1), (2, 0))])
        self.assertEqual([can_grow(bay, cell) for cell in ((2, 0), (2, 1), (1, 1))], [False, False, True])

    def test_wrong(self):
        for wrong in ((), ((0, 0), (1, 1)), RING, None, 5, "ab", ((True, 0),), ((1, 0), (0, 0))):
            for function in (can_grow, grown):
                with self.assertRaises(Unfit):
                    function(wrong, (0, 5))
            with self.assertRaises(Unfit):
                borders(wrong)

    def test_what_is_no_cell(self):
        for wrong in ((0,), (3, 0, 0), (True, 2), None, (2, True)):
            self.assertIs(can_grow(CORNER, wrong), False)
            with self.assertRaises(Unfit):
                grown(CORNER, wrong)


class Shrinking(unittest.TestCase):
    def test_all_floors(self):
        for floor in floors(7):
            many = 0
            for cell in floor:
                left = tuple([own for own in floor if own != cell])
                if is_floor_plainly(left):
                    many += 1
                    self.assertEqual(shrunk(floor, cell), left)
                else:
                    with self.assertRaises(Unfit):
                        shrunk(floor, cell)
            self.assertGreaterEqual(many, 2 if len(floor) > 1 else 0, floor)

    def test_there_and_back(self):
        for floor in floors(5):
            for cell in borders(floor):
                self.assertEqual(shrunk(grown(floor, cell), cell), floor)

    def test_nothing_left(self):
        with self.assertRaises(Unfit):
            shrunk(((0, 0),), (0, 0))

    def test_none_of_it(self):
        for cell in ((2, 2), (-1, 0), (10 ** 6, 0), (0,), None, (True, 0), (1, False)):
            with self.assertRaises(NoCell) as caught:
                shrunk(CORNER, cell)
            self.assertEqual(repr(caught.exception.cell), repr(cell))

    def test_tuples_are_kept(self):
        with self.assertRaises(NoCell) as caught:
            shrunk(CORNER, [7, 7])
        self.assertEqual(repr(caught.exception.cell), "(7, 7)")

    def test_no_floor_ahead_of_no_cell(self):
        for wrong in ((), ((0, 0), (1, 1)), RING, None):
            with self.assertRaises(Unfit):
                shrunk(wrong, (9, 9))


if __name__ == "__main__":
    unittest.main()
