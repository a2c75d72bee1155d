"""Point [9]: RUNS, what ends and begins in them, the rows they tell."""

import unittest

from stairlaid.counts import count, count_bar
from stairlaid.errors import CanNot, Unfit
from stairlaid.rims import rim_bar
from stairlaid.runs import run_numbers, runs, told_row
from tests.made import block_of, cells_plainly, floors, laid, layings_plainly, named_plainly, place

SLAB, CORNER, SQUARE = block_of(3, 2), ((0, 0), (0, 1), (1, 0)), block_of(4, 4)
STRAIT = ((0, 1), (0, 2), (1, 1), (2, 1), (3, 0), (3, 1))
PIT = ((-3, 1), (-2, 0), (-2, 1), (-2, 2), (-2, 3), (-2, 4), (-1, -1), (-1, 0), (-1, 1), (0, -1), (0, 0), (0, 1),
       (0, 2), (0, 3), (1, -1), (1, 0), (1, 2), (2, 0))


def runs_plainly(floor, number):
    at = {place(cell): cell for cell in floor if sum(cell) in (number, number + 1)}
    firsts = [own for own in sorted(at) if own - 1 not in at]
    return [tuple([at[own] for own in range(first, max(at) + 1) if all([own - i in at for i in range(own - first)])])
            for first in firsts]


class Runs(unittest.TestCase):
    def test_all_floors(self):
        for floor in floors(7):
            for number in range(-3, 11):
                found = runs(floor, number)
                self.assertIs(type(found), list)
                self.assertEqual(found, runs_plainly(floor, number), (floor, number))

    def test_edges(self):
        self.assertEqual(runs(((5, -2),), 3), [((5, -2),)])
        self.assertEqual(runs(((5, -2),), 2), [((5, -2),)])
        self.assertEqual((runs(((5, -2),), 1), runs(((5, -2),), 4), runs(SLAB, 10 ** 6)), ([], [], []))
        # Ahead of the first diagonal, and at the last one.
        self.assertEqual((runs(SLAB, -1), runs(SLAB, 3)), ([((0, 0),)], [((2, 1),)]))
        self.assertEqual(runs(SQUARE, 2), [((0, 3), (0, 2), (1, 2), (1, 1), (2, 1), (2, 0), (3, 0))])

    def test_wrong(self):
        for wrong in ((), None, True, SLAB[::-1], ((0, 0), (1, 1)), "ab", 4):
            for function in (lambda floor: runs(floor, 0), lambda floor: run_numbers(floor, 2, 0),
                             lambda floor: told_row(floor, 2, 0)):
                with self.assertRaises(Unfit, msg=wrong):
                    function(wrong)


class Numbers(unittest.TestCase):
    def test_what_each_laying_has_in_a_run(self):
        for floor, size, laying in laid(6):
            named = {name: cells_plainly(stair) for name, stair in named_plainly(laying).items()}
            for number in range(-3, 11):
                rows = []
                for run, numbers in zip(runs(floor, number), run_numbers(floor, size, number), strict=True):
                    ends = [(place(cells[-1]), name) for name, cells in named.items()
                            if cells[-1] in run and sum(cells[-1]) == number]
                    begins = [(place(cells[0]), name) for name, cells in named.items()
                              if cells[0] in run and sum(cells[0]) == number + 1]
                    self.assertEqual(numbers, (len(ends), len(begins)))
                    self.by_turns(run, number, [name[0] > number for _, name in sorted(ends + begins)])
                    rows += [name for _, name in sorted(ends + begins)]
                self.assertEqual(told_row(floor, size, number - size + 1), tuple(rows))

    def by_turns(self, run, number, begins):
        self.assertTrue(all([own != behind for own, behind in zip(begins, begins[1:])]))
        if begins:
            wide = [sum(cell) for cell in run]
            more = wide.count(number + 1) - wide.count(number)
            self.assertEqual(begins.count(True) - begins.count(False), more)
            self.assertIn(more, (-1, 0, 1))
            self.assertEqual(begins[0], sum(run[0]) == number + 1)

    def test_as_many_more_begin_as_there_are_more_cells(self):
        for floor in floors(6):
            for size in (1, 2, 3):
                if count_bar(floor, size) is None and rim_bar(floor, size) is None:
                    for number in range(-3, 11):
                        for run, (ends, begins) in zip(runs(floor, number), run_numbers(floor, size, number)):
                            wide = [sum(cell) for cell in run]
                            self.assertEqual(begins - ends, wide.count(number + 1) - wide.count(number))

    def test_a_run_of_one_cell(self):
        self.assertEqual((run_numbers(((5, -2),), 1, 3), run_numbers(((5, -2),), 1, 2)), ([(1, 0)], [(0, 1)]))
        self.assertEqual((run_numbers(((5, -2),), 1, 1), run_numbers(SLAB, 3, 50)), ([], []))

    def test_a_number_that_falls(self):
        self.assertEqual(run_numbers(PIT, 3, 2), [(1, 0), (-1, 0), (1, 0)])
        self.assertEqual(layings_plainly(PIT, 3), [])
        self.assertIsNone(rim_bar(PIT, 3))

    def test_what_bars(self):
        for floor, size in ((CORNER, 3), (SLAB, 4), (SLAB, 6), (STRAIT, 3)):
            for number in (-1, 0, 1, 9):
                for function in (run_numbers, told_row):
                    with self.assertRaises(CanNot):
                        function(floor, size, number)

    def test_wrong_sizes(self):
        for size in (0, -1, None, True, "2", (2,)):
            for floor in (SLAB, CORNER, STRAIT):
                for function in (run_numbers, told_row):
                    with self.assertRaises(Unfit):
                        function(floor, size, 0)


class Rows(unittest.TestCase):
    def test_all_names_of_both_feet(self):
        for floor in floors(6):
            for size in (1, 2, 3):
                if count_bar(floor, size) is None and rim_bar(floor, size) is None:
                    for foot in range(-3, 9):
                        row = told_row(floor, size, foot)
                        self.assertIs(type(row), tuple)
                        self.assertEqual(sorted(row), [(own, k) for own in (foot, foot + size)
                                                       for k in range(count(floor, size, own))])

    def test_not_told(self):
        # A number falls, though those of the whole diagonal are as many as the COUNT.
        self.assertEqual((count(PIT, 3, 0), count(PIT, 3, 3)), (1, 0))
        with self.assertRaises(CanNot):
            told_row(PIT, 3, 0)

    def test_none(self):
        self.assertEqual((told_row(SLAB, 2, 9), told_row(SLAB, 2, -9), told_row(SLAB, 3, 2)), ((), (), ()))
        self.assertEqual(told_row(((5, -2),), 1, 2), ((3, 0),))

    def test_size_1(self):
        self.assertEqual(told_row(SLAB, 1, 1), ((1, 0), (2, 0), (1, 1), (2, 1)))


if __name__ == "__main__":
    unittest.main()
