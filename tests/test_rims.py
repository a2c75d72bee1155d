"""Point [8]: RIMS and their numbers, over all small FLOORS and at the edges."""

import unittest

from stairlaid.counts import count, count_bar
from stairlaid.errors import CanNot, NoPoint, Unfit
from stairlaid.rims import left_of, rim, rim_bar, rim_numbers, rim_rows
from tests.made import block_of, cells_plainly, floors, laid, place, wild

SLAB, CORNER, BLOCK = block_of(3, 2), ((0, 0), (0, 1), (1, 0)), block_of(3, 3)
STRAIT = ((0, 1), (0, 2), (1, 1), (2, 1), (3, 0), (3, 1))
# The CELL at the left hand and the one at the right, on the way from (0, 0) by a side.
HANDS = {(1, 0): ((0, 0), (0, -1)), (0, 1): ((-1, 0), (0, 0)),
         (-1, 0): ((-1, -1), (-1, 0)), (0, -1): ((0, -1), (-1, -1))}


def diagonal_of(point):
    return sum(point) - 1


def hands(point, onward):
    x, y = point
    return [(x + a, y + b) for a, b in HANDS[(onward[0] - x, onward[1] - y)]]


def left_plainly(floor, point):
    return len([cell for cell in floor if sum(cell) == diagonal_of(point) and place(cell) < place(point)])


def numbers_from(floor, size, points, start):
    """The RIM NUMBERS by the words: feet by POINTS, all 0 at the start, told on to the last of the points."""
    window = {diagonal_of(points[start]) - i: 0 for i in range(size)}
    told = {}
    for point in points[start:] + points[:start]:
        feet = [diagonal_of(point) - i for i in range(size)]
        fresh = [foot for foot in feet if foot not in window]
        window = {foot: window[foot] for foot in feet if foot in window}
        for foot in fresh:
            window[foot] = left_plainly(floor, point) - sum(window.values())
        told[point] = tuple([window[foot] for foot in sorted(window)])
    return told


class Rims(unittest.TestCase):
    def test_all_floors(self):
        for floor in floors(7):
            points = rim(floor)
            self.assertIs(type(points), tuple)
            self.assertEqual(points[0], min(points))
            self.assertEqual(len(set(points)), len(points))
            ways = list(zip(points, points[1:] + points[:1]))
            for point, onward in ways:
                left, right = hands(point, onward)
                self.assertIn(left, floor)
                self.assertNotIn(right, floor)
            cells = set(floor)
            many = sum([(x + a, y + b) not in cells for x, y in floor for a, b in HANDS])
            self.assertEqual(len(points), many)
            higher = [sum(onward) > sum(point) for point, onward in ways]
            self.assertEqual(higher.count(True), higher.count(False))

    def test_one_cell(self):
        self.assertEqual(rim(((5, -2),)), ((5, -2), (6, -2), (6, -1), (5, -1)))

    def test_the_least_point_is_not_on_the_least_diagonal(self):
        floor = ((0, 3), (1, 0), (1, 1), (1, 2), (1, 3))
        self.assertEqual(rim(floor)[:2], ((0, 3), (1, 3)))
        self.assertEqual(rim_rows(floor, 1)[0], ((0, 3), (0,)))
        self.assertEqual([row[0] for row in rim_rows(floor, 1)], list(rim(floor)))

    def test_wrong(self):
        for wrong in ((), None, True, SLAB[::-1], ((0, 0), (1, 1)), "ab", 4):
            for function in (rim, lambda floor: left_of(floor, (0, 0)), lambda floor: rim_bar(floor, 2),
                             lambda floor: rim_rows(floor, 2), lambda floor: rim_numbers(floor, 2, (77, 77))):
                with self.assertRaises(Unfit, msg=wrong):
                    function(wrong)


class LeftOf(unittest.TestCase):
    def test_all_points_around(self):
        for floor in floors(5):
            for x in range(-2, 7):
                for y in range(-2, 7):
                    self.assertEqual(left_of(floor, (x, y)), left_plainly(floor, (x, y)))

    def test_inside_and_far_away(self):
        self.assertEqual([left_of(BLOCK, own) for own in ((1, 1), (1, 2), (2, 1), (2, 2))], [1, 1, 2, 1])
        self.assertEqual([left_of(SLAB, own) for own in ((9, 9), (-50, 3), (10 ** 6, -10 ** 6))], [0, 0, 0])
        # On a diagonal of the FLOOR, far to its right, and far to its left.
        self.assertEqual((left_of(SLAB, (500, -497)), left_of(SLAB, (-500, 502))), (2, 0))


class Numbers(unittest.TestCase):
    def test_all_floors_from_whatever_start_and_way(self):
        asked = [(floor, size) for floor in floors(7) for size in range(1, 7)]
        asked += [(floor, size) for size in (2, 3, 4) for floor in wild(60, size)]
        for floor, size in asked:
            if count_bar(floor, size) is None:
                points = list(rim(floor))
                least = min([sum(point) for point in points])
                told = dict(rim_rows(floor, size))
                self.assertEqual(list(told), points)
                for way in (points, points[::-1]):
                    for start in [at for at, point in enumerate(way) if sum(point) == least]:
                        self.assertEqual(numbers_from(floor, size, way, start), told)
                for point in points:
                    self.assertEqual(rim_numbers(floor, size, point), told[point])
                    self.assertEqual(len(told[point]), size)
                    self.assertEqual(sum(told[point]), left_plainly(floor, point))

    def test_what_each_laying_has_left_of_a_point(self):
        for floor, size, laying in laid(7):
            for point, numbers in rim_rows(floor, size):
                left = [sum(stair[0]) for stair in laying for cell in cells_plainly(stair)
                        if sum(cell) == diagonal_of(point) and place(cell) < place(point)]
                feet = range(diagonal_of(point) - size + 1, diagonal_of(point) + 1)
                self.assertEqual(numbers, tuple([left.count(foot) for foot in feet]))
            self.assertIsNone(rim_bar(floor, size))

    def test_bars(self):
        many = 0
        for size in (2, 3, 4):
            for floor in [floor for floor in floors(6) if count_bar(floor, size) is None] + list(wild(100, size)):
                bars = [point for point, numbers in rim_rows(floor, size) for i, number in enumerate(numbers)
                        if not 0 <= number <= count(floor, size, diagonal_of(point) - size + 1 + i)]
                self.assertEqual(rim_bar(floor, size), min(bars, default=None))
                many += len(bars) > 0
        self.assertGreater(many, 20)

    def test_a_number_above_its_count_bars(self):
        # (1, 2) has a 1 for foot 0, which has no STAIRS; no number is below 0 there.
        self.assertEqual((rim_bar(STRAIT, 3), rim_numbers(STRAIT, 3, (1, 2))), ((1, 2), (1, 0, 0)))
        self.assertEqual(rim_numbers(STRAIT, 3, (3, 1)), (1, 1, -1))

    def test_no_point(self):
        for point in ((1, 1), (9, 9), (-1, 0), (0, 3), (True, 0), (1,), None, (0, 0, 0)):
            with self.assertRaises(NoPoint) as caught:
                rim_numbers(SLAB, 2, point)
            self.assertEqual(repr(caught.exception.point), repr(point))
        with self.assertRaises(NoPoint) as caught:
            rim_numbers(SLAB, 2, [1, 1])
        self.assertEqual(repr(vars(caught.exception)), "{'point': (1, 1)}")

    def test_no_point_is_ahead_of_a_count_that_bars(self):
        with self.assertRaises(NoPoint):
            rim_numbers(CORNER, 3, (2, 2))
        with self.assertRaises(CanNot):
            rim_numbers(CORNER, 3, (1, 1))
        for function in (rim_rows, rim_bar):
            for floor, size in ((CORNER, 3), (SLAB, 4), (SLAB, 6), (((5, -2),), 2)):
                with self.assertRaises(CanNot):
                    function(floor, size)

    def test_wrong_sizes(self):
        for size in (0, -1, None, True, "2", (2,)):
            # Ahead of NoPoint and of CanNot.
            for function in (rim_bar, rim_rows, lambda floor, size: rim_numbers(floor, size, (7, 7))):
                for floor in (SLAB, CORNER):
                    with self.assertRaises(Unfit):
                        function(floor, size)


if __name__ == "__main__":
    unittest.main()
