"""Point [17]: what all LAYINGS have, over all small FLOORS, greater ones by chance, and at the edges."""

import unittest

from stairlaid.errors import CanNot, NoCell, NoName, TooMany, Unfit
from stairlaid.orders import free_pairs
from stairlaid.sures import loose_cells, places, sure_name, sure_names, sure_stairs
from tests.made import (BARRED, JUST_400, JUST_401, NO_FLOORS, NO_PAIRS, NO_SIZES, block_of, cells_plainly, counts_plainly,
                        families, laid_ones, named_plainly, place)

SLAB, CORNER = block_of(3, 2), ((0, 0), (0, 1), (1, 0))
TAIL = (*SLAB, (3, 1), (4, 1), (5, 1))


def bearers(layings, cell):
    """The NAMES that have this CELL in one LAYING or another."""
    return {name for laying in layings for name, stair in named_plainly(laying).items()
            if cell in cells_plainly(stair)}


class Sures(unittest.TestCase):
    def test_stairs_and_names(self):
        kinds = set()
        for floor, size, layings in laid_ones(6, 12):
            told = [stair for stair in layings[0] if all([stair in laying for laying in layings])]
            self.assertEqual(sure_stairs(floor, size), tuple(told))
            named = [named_plainly(laying) for laying in layings]
            sure = [name for name in named[0] if len({own[name] for own in named}) == 1]
            self.assertEqual(sure_names(floor, size), tuple(sure))
            free = {name for pair in free_pairs(floor, size) for name in pair}
            self.assertEqual(set(sure), set(named[0]) - free)
            for stair in told:
                self.assertEqual(len({name for own in named for name in own if own[name] == stair}), 1)
            kinds.add((size, len(layings) > 1, bool(told), bool(free)))
        self.assertGreater(len(kinds), 15)

    def test_cells(self):
        unlike = 0
        for floor, size, layings in laid_ones(6, 12):
            loose, sure = loose_cells(floor, size), sure_stairs(floor, size)
            for cell in floor:
                told = bearers(layings, cell)
                self.assertEqual(cell in loose, len(told) > 1)
            for cell in (floor[0], floor[-1], floor[len(floor) // 2], *loose[:1]):
                told = bearers(layings, cell)
                self.assertEqual(sure_name(floor, size, cell), told.pop() if len(told) == 1 else None)
            self.assertEqual(list(loose), sorted(set(loose)))
            fixed = {cell for stair in sure for cell in cells_plainly(stair)}
            self.assertFalse(fixed & set(loose))
            # Other CELLS may be of one NAME, too, whose STAIR is not the same one.
            unlike += len(fixed) < len(floor) - len(loose)
        self.assertGreater(unlike, 20)

    def test_one_cell_and_size_1(self):
        self.assertEqual((sure_stairs(((5, 2),), 1), sure_names(((5, 2),), 1), sure_name(((5, 2),), 1, (5, 2)),
                          loose_cells(((5, 2),), 1), places(((5, 2),), 1, (7, 0))),
                         ((((5, 2), ()),), ((7, 0),), (7, 0), (), (((5, 2), (5, 2)),)))
        self.assertEqual((len(sure_stairs(block_of(8, 5), 1)), loose_cells(block_of(8, 5), 1)), (40, ()))

    def test_one_laying(self):
        self.assertEqual((sure_stairs(block_of(1, 4), 4), loose_cells(block_of(1, 4), 4), sure_names(block_of(1, 4), 4)),
                         ((((0, 0), (1, 1, 1)),), (), ((0, 0),)))


class Places(unittest.TestCase):
    def test_as_all_layings_tell(self):
        for floor, size, layings in laid_ones(6, 12):
            for name in list(named_plainly(layings[0]))[:4]:
                told = places(floor, size, name)
                self.assertEqual(len(told), size)
                for i, (least, greatest) in enumerate(told):
                    cells = [cells_plainly(named_plainly(laying)[name])[i] for laying in layings]
                    self.assertEqual((least, greatest), (min(cells, key=place), max(cells, key=place)))
                    self.assertEqual((sum(least), sum(greatest)), (name[0] + i, name[0] + i))

    def test_alike_only_if_sure_there(self):
        for floor, size, layings in laid_ones(6, 6, least=2):
            sure = sure_names(floor, size)
            for name in named_plainly(layings[0]):
                self.assertEqual(all([least == greatest for least, greatest in places(floor, size, name)]), name in sure)


class Errors(unittest.TestCase):
    def test_no_cell(self):
        for cell in ((3, 0), (-1, 0), (0, 2), (10 ** 6, 0), *NO_PAIRS):
            # Ahead of no LAYING, and of too many.
            for floor, size in ((SLAB, 3), (CORNER, 3)):
                with self.assertRaises(NoCell) as caught:
                    sure_name(floor, size, cell)
                self.assertEqual(repr(vars(caught.exception)), repr({"cell": cell}))
        with self.assertRaises(NoCell) as caught:
            sure_name(JUST_401, 2, [3, 3])
        self.assertEqual(repr(caught.exception.cell), "(3, 3)")
        self.assertEqual(sure_name(SLAB, 3, [0, 0]), (0, 0))

    def test_no_name(self):
        for name in ((2, 0), (0, 1), (0, -1), (-1, 0), (1, 1), (10 ** 6, 0), *[own for own in NO_PAIRS if own != (0, 0)]):
            with self.assertRaises(NoName) as caught:
                places(SLAB, 3, name)
            self.assertEqual(repr(vars(caught.exception)), repr({"name": name}))
        with self.assertRaises(NoName) as caught:
            places(JUST_401, 2, [99, 0])
        self.assertEqual(repr(caught.exception.name), "(99, 0)")
        self.assertEqual(places(SLAB, 2, [1, 0]), (((0, 1), (1, 0)), ((1, 1), (2, 0))))

    def test_names_whatever_bars(self):
        # What a COUNT tells is a NAME, though the COUNT is left over, or another one bars.
        for floor, size in (*BARRED, (block_of(3, 3), 4), (block_of(3, 3), 2), (SLAB, 7)):
            told = counts_plainly(floor, size)
            for foot in range(min(told) - 2, max(told) + 3):
                for k in range(-1, 4):
                    wanted = CanNot if 0 <= k < told.get(foot, 0) else NoName
                    with self.assertRaises(wanted):
                        places(floor, size, (foot, k))

    def test_no_laying(self):
        for floor, size in (*BARRED, (block_of(7, 4), 5), (SLAB, 4)):
            for function in (sure_stairs, sure_names, loose_cells, lambda floor, size: sure_name(floor, size, floor[0])):
                with self.assertRaises(CanNot):
                    function(floor, size)

    def test_just_400_and_more(self):
        for function in (sure_stairs, sure_names, loose_cells, lambda floor, size: sure_name(floor, size, floor[0]),
                         lambda floor, size: places(floor, size, (sum(floor[0]), 0))):
            function(JUST_400, 3)
            for floor, size in ((JUST_401, 2), (block_of(7, 4), 2)):
                with self.assertRaises(TooMany):
                    function(floor, size)

    def test_wrong(self):
        for function in (sure_stairs, sure_names, loose_cells, lambda floor, size: sure_name(floor, size, (99, 99)),
                         lambda floor, size: places(floor, size, (99, 99)), lambda floor, size: places(floor, size, None)):
            for wrong in NO_FLOORS:
                for size in (3, 0):
                    with self.assertRaises(Unfit):
                        function(wrong, size)
            for wrong in NO_SIZES:
                for floor in (CORNER, JUST_401):
                    with self.assertRaises(Unfit):
                        function(floor, wrong)


if __name__ == "__main__":
    unittest.main()
