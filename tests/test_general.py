"""Points [2], [3] and [23]: what holds for all functions alike."""

import copy
import importlib
import inspect
import unittest

from stairlaid.errors import NoCell, NoName, NoPoint, Unfit
from tests.made import block_of

SLAB = block_of(3, 2)
FLAT = (((0, 0), (0, 0)), ((0, 1), (0, 0)))
FAN = (((0, 1), (1,)), ((1, 0), (0,)), ((1, 1), (0,)))
STAIR = ((4, -1), (0, 1, 1, 0))
KNOT = ((0, 1), (1, 1), (2, 0), (2, 1), (2, 2), (3, 0))
BLOCK = block_of(3, 3)
BEDS, POSTS = tuple([((0, y), (0, 0)) for y in range(3)]), tuple([((x, 0), (1, 1)) for x in range(3)])
WAY = (((1, 0), (0, 0)), ((2, 0), (0, 0)), ((2, 0), (1, 0)))
ORDER = (((0, 0), (2, 0)), ((1, 0), (0, 0)), ((1, 0), (2, 0)))
TAIL = (*SLAB, (3, 1), (4, 1), (5, 1))
# For each file of the interface its functions, each with its arguments by name and in order.
CALLS = {
    "cells": {
        "is_floor": {"thing": SLAB},
        "diagonal": {"floor": SLAB, "number": 1},
        "span": {"floor": SLAB},
        "can_grow": {"floor": SLAB, "cell": (1, 2)},
        "grown": {"floor": SLAB, "cell": (1, 2)},
        "shrunk": {"floor": SLAB, "cell": (1, 1)},
        "borders": {"floor": SLAB},
    },
    "spaces": {
        "shifted": {"floor": SLAB, "by": (3, -1)},
        "mirrored": {"floor": SLAB},
        "half_turned": {"floor": SLAB},
        "stair_shifted": {"stair": STAIR, "by": (3, -1)},
        "stair_mirrored": {"stair": STAIR},
        "stair_half_turned": {"stair": STAIR},
        "laying_shifted": {"laying": FAN, "by": (3, -1)},
        "laying_mirrored": {"laying": FAN},
        "laying_half_turned": {"laying": FAN},
        "alike": {"floor": SLAB, "other": block_of(2, 3)},
    },
    "layings": {
        "is_stair": {"thing": STAIR},
        "size_of": {"stair": STAIR},
        "foot_of": {"stair": STAIR},
        "cells_of": {"stair": STAIR},
        "stairs_in": {"floor": SLAB, "size": 2},
        "is_laying": {"floor": SLAB, "size": 3, "thing": FLAT},
        "floor_of": {"laying": FLAT},
        "names": {"laying": FAN},
        "stair_named": {"laying": FAN, "name": (1, 1)},
        "name_at": {"laying": FAN, "cell": (2, 0)},
    },
    "counts": {
        "counts": {"floor": SLAB, "size": 2},
        "count": {"floor": SLAB, "size": 2, "foot": 1},
        "names_of": {"floor": SLAB, "size": 2},
        "count_bar": {"floor": block_of(3, 3), "size": 4},
    },
    "rims": {
        "rim": {"floor": SLAB},
        "left_of": {"floor": SLAB, "point": (2, 1)},
        "rim_numbers": {"floor": SLAB, "size": 2, "point": (3, 1)},
        "rim_rows": {"floor": SLAB, "size": 2},
        "rim_bar": {"floor": SLAB, "size": 3},
    },
    "runs": {
        "runs": {"floor": SLAB, "number": 1},
        "run_numbers": {"floor": SLAB, "size": 2, "number": 1},
        "told_row": {"floor": SLAB, "size": 2, "foot": 0},
    },
    "told": {
        "told_pairs": {"floor": KNOT, "size": 3},
        "reason": {"floor": KNOT, "size": 3, "pair": ((2, 0), (1, 0))},
        "told_ring": {"floor": KNOT, "size": 3},
        "is_ring": {"floor": KNOT, "size": 3, "thing": ((2, 0), (1, 0))},
    },
    "orders": {
        "ahead": {"laying": FLAT, "name": (0, 0), "other": (1, 0)},
        "order_of": {"laying": FAN},
        "is_order": {"floor": BLOCK, "size": 3, "thing": ORDER},
        "laying_of": {"floor": BLOCK, "size": 3, "order": ORDER},
        "free_pairs": {"floor": BLOCK, "size": 3},
    },
    "peels": {
        "first_ones": {"laying": FAN},
        "rows": {"laying": FAN},
        "least_row": {"laying": FAN},
        "first_cells": {"floor": BLOCK, "size": 3, "foot": 1},
        "laid_by": {"floor": BLOCK, "size": 3, "row": (1, 2, 0)},
        "rows_alike": {"size": 3, "row": (0, 4, 1), "other": (4, 0, 1)},
    },
    "cans": {
        "can_lay": {"floor": SLAB, "size": 4},
        "lay": {"floor": SLAB, "size": 3},
        "bar": {"floor": KNOT, "size": 3},
        "is_bar": {"floor": KNOT, "size": 3, "thing": ("ring", ((2, 0), (1, 0)))},
    },
    "turns": {
        "turns": {"laying": BEDS},
        "can_turn": {"laying": BEDS, "pair": WAY[0]},
        "turned": {"laying": BEDS, "pair": WAY[0]},
        "turned_steps": {"laying": BEDS, "pair": WAY[0]},
        "between": {"laying": BEDS, "name": (2, 0), "other": (0, 0)},
        "apart": {"laying": BEDS, "other": POSTS},
        "fewest": {"laying": BEDS, "other": POSTS},
        "plan": {"laying": BEDS, "other": POSTS},
        "is_plan": {"laying": BEDS, "other": POSTS, "thing": WAY},
        "behind": {"laying": BEDS, "plan": WAY},
    },
    "shapes": {
        "shape": {"stair": STAIR},
        "shapes": {"laying": FAN},
        "ups": {"laying": FAN, "number": 1},
        "sums": {"laying": BEDS},
        "middles": {"laying": BEDS},
        "sums_of": {"floor": BLOCK, "size": 3},
        "middles_of": {"floor": BLOCK, "size": 3},
        "shapes_behind": {"laying": BEDS, "pair": WAY[0]},
        "can_have": {"floor": BLOCK, "size": 3, "shapes": (((0, 0), 3),)},
    },
    "alls": {
        "all_layings": {"floor": SLAB, "size": 2},
        "many": {"floor": SLAB, "size": 2},
        "many_by_rows": {"floor": SLAB, "size": 2},
        "place_of": {"laying": POSTS},
        "laying_at": {"floor": SLAB, "size": 2, "number": 1},
    },
    "sures": {
        "sure_stairs": {"floor": TAIL, "size": 3},
        "sure_names": {"floor": TAIL, "size": 3},
        "sure_name": {"floor": TAIL, "size": 3, "cell": (2, 1)},
        "loose_cells": {"floor": TAIL, "size": 3},
        "places": {"floor": TAIL, "size": 3, "name": (1, 0)},
    },
    "takes": {
        "is_take": {"laying": FLAT, "thing": ((1, 0),)},
        "taken": {"laying": FLAT, "names": ((1, 0),)},
        "left_floor": {"laying": FLAT, "names": ((1, 0),)},
        "takes": {"laying": BEDS},
        "first_take": {"laying": FLAT, "cell": (2, 0)},
    },
    "joins": {
        "can_join": {"floor": SLAB, "other": ((3, 0),)},
        "joined": {"floor": SLAB, "other": ((3, 0),)},
        "laid_together": {"laying": FLAT, "other": (((0, 2), (0, 0)),)},
        "cuts": {"laying": BEDS},
        "is_cut": {"laying": FLAT, "thing": ((1, 0),)},
        "parted": {"laying": FLAT, "names": ((1, 0),)},
    },
    "judge": {
        "is_claim": {"thing": ("can", SLAB, 2)},
        "is_so": {"claim": ("ahead", SLAB, 2, (0, 0), (2, 0))},
        "paper_against": {"claim": ("turns", BEDS, POSTS, 1)},
        "is_paper_against": {"claim": ("turns", BEDS, POSTS, 0), "thing": (((0, 0), (1, 0)),)},
        "reason_for": {"claim": ("can", SLAB, 3)},
        "is_reason_for": {"claim": ("can", SLAB, 3), "thing": FLAT},
        "first_fallen": {"claims": (("can", SLAB, 2), ("sums", SLAB, 3, (1,)))},
    },
    "texts": {
        "row_name": {"row": (0, 2, -1)},
        "row_read": {"word": "0,2,-1"},
        "floor_text": {"floor": SLAB},
        "laying_text": {"laying": FAN},
        "plan_text": {"plan": WAY},
        "read_floor": {"text": "at 0 1\n##\n#.\n"},
        "read_laying": {"text": "stair 0.0 u\nstair 1.0 u\n"},
        "read_plan": {"text": "turn 0.0 1.0\n"},
    },
}
# The functions of the interface, by the files under which it lists them.
INTERFACE = {
    "cells": "is_floor diagonal span can_grow grown shrunk borders",
    "spaces": "shifted mirrored half_turned stair_shifted stair_mirrored stair_half_turned "
              "laying_shifted laying_mirrored laying_half_turned alike",
    "layings": "is_stair size_of foot_of cells_of stairs_in is_laying floor_of names stair_named name_at",
    "counts": "counts count names_of count_bar",
    "rims": "rim left_of rim_numbers rim_rows rim_bar",
    "runs": "runs run_numbers told_row",
    "told": "told_pairs reason told_ring is_ring",
    "orders": "ahead order_of is_order laying_of free_pairs",
    "peels": "first_ones rows least_row first_cells laid_by rows_alike",
    "cans": "can_lay lay bar is_bar",
    "turns": "turns can_turn turned turned_steps between apart fewest plan is_plan behind",
    "shapes": "shape shapes ups sums middles sums_of middles_of shapes_behind can_have",
    "alls": "all_layings many many_by_rows place_of laying_at",
    "sures": "sure_stairs sure_names sure_name loose_cells places",
    "takes": "is_take taken left_floor takes first_take",
    "joins": "can_join joined laid_together cuts is_cut parted",
    "judge": "is_claim is_so paper_against is_paper_against reason_for is_reason_for first_fallen",
    "texts": "row_name row_read floor_text laying_text plan_text read_floor read_laying read_plan",
}
# What else is a FLOOR or a LAYING, by functions; and who raises errors that keep an argument.
SECOND_ONES = {"alike": "other", "apart": "other", "fewest": "other", "plan": "other", "is_plan": "other",
               "can_join": "other", "joined": "other", "laid_together": "other"}
KEPT = {"shrunk": ("cell", NoCell), "stair_named": ("name", NoName), "name_at": ("cell", NoCell),
        "rim_numbers": ("point", NoPoint), "ahead": ("other", NoName), "between": ("name", NoName),
        "sure_name": ("cell", NoCell), "places": ("name", NoName), "first_take": ("cell", NoCell)}
# What takes nothing that has to be a FLOOR, STAIR, LAYING or size.
FREE = ("is_floor", "is_stair", "is_claim", "row_name", "row_read", "plan_text", "read_floor", "read_laying", "read_plan")
# What raises other errors by itself, or is no thing.
OTHERS = {"cell": (9, 9), "name": (9, 9), "point": (99, 99), "thing": None, "pair": ((9, 9), (9, 9)),
          "row": (99,), "order": (), "plan": (((9, 9), (9, 9)),), "names": ((9, 9),), "number": 99, "shapes": ()}


def calls():
    return [(getattr(importlib.import_module(f"stairlaid.{file}"), name), arguments)
            for file, functions in CALLS.items() for name, arguments in functions.items()]


def listed(value, depth):
    """value with lists in the place of tuples at this depth, from 0; at all depths for None."""
    if not isinstance(value, tuple):
        return value
    items = [listed(item, None if depth is None else depth - 1) for item in value]
    return items if depth in (None, 0) else tuple(items)


def wrong_values():
    """What is no FLOOR, STAIR, LAYING or size, of whatever kind, nested however deep."""
    deep, endless = [], []
    for _ in range(5000):
        deep = [deep]
    endless.append(endless)
    return [None, True, False, 0, -1, 2.0, 0.5, "", "ab", b"ab", (), [], {}, set(), object(), range(3), (None,),
            ((),), ((0, 0),) * 3, [[0.0, 0]], [[0, 0], {}], ((0, 0), {}), [[[0, 0], ["0"]]], {(0, 0): 1}, deep, endless]


class Interface(unittest.TestCase):
    def test_functions_stand_in_their_files(self):
        for file, functions in CALLS.items():
            module = importlib.import_module(f"stairlaid.{file}")
            for name, arguments in functions.items():
                function = getattr(module, name)
                self.assertEqual(function.__module__, module.__name__, name)
                self.assertEqual(list(inspect.signature(function).parameters), list(arguments), name)


    def test_all_that_the_interface_lists(self):
        self.assertEqual({file: set(functions) for file, functions in CALLS.items()},
                         {file: set(words.split()) for file, words in INTERFACE.items()})


class AllFunctions(unittest.TestCase):
    def test_by_position_and_by_name(self):
        for function, arguments in calls():
            told = function(*arguments.values())
            self.assertEqual(repr(function(**arguments)), repr(told), function)
            self.assertEqual(repr(function(**dict(reversed(arguments.items())))), repr(told), function)

    def test_lists_in_the_place_of_tuples(self):
        for function, arguments in calls():
            told = function(*arguments.values())
            for depth in (0, 1, 2, None):
                given = {name: listed(worth, depth) if name != "thing" else worth
                         for name, worth in arguments.items()}
                kept = copy.deepcopy(given)
                self.assertEqual(repr(function(**given)), repr(told), (function, depth))
                self.assertEqual(given, kept, function)

    def test_a_thing_with_lists_is_none(self):
        for function, arguments in calls():
            if "thing" in arguments:
                self.assertIs(function(**arguments), True)
                for depth in (0, 1, None):
                    given = {**arguments, "thing": listed(arguments["thing"], depth)}
                    kept = copy.deepcopy(given)
                    self.assertIs(function(**given), False, (function, depth))
                    self.assertEqual(given, kept, function)

    def test_errors_have_tuples_and_change_nothing(self):
        for function, arguments in calls():
            if function.__name__ in KEPT:
                name, error = KEPT[function.__name__]
                wrong = {**{own: listed(worth, None) for own, worth in arguments.items()}, name: [9, 9]}
                kept = copy.deepcopy(wrong)
                with self.assertRaises(error) as caught:
                    function(**wrong)
                self.assertEqual(repr(list(vars(caught.exception).values())), "[(9, 9)]")
                self.assertEqual(wrong, kept)

    def test_unfit_whatever_they_are_and_ahead_of_all(self):
        for function, arguments in calls():
            given = {name: OTHERS.get(name, worth) for name, worth in arguments.items()}
            places = [name for name in given if name in ("floor", "stair", "laying", "size", "claim")
                      or name == SECOND_ONES.get(function.__name__)]
            self.assertTrue(places or function.__name__ in (*FREE, "first_fallen"), function)
            for place in places:
                for wrong in wrong_values():
                    with self.assertRaises(Unfit, msg=(function, place)):
                        function(**{**given, place: wrong})

    def test_lists_are_new(self):
        many = 0
        for function, arguments in calls():
            told, again = function(**arguments), function(**arguments)
            if isinstance(told, list):
                many += 1
                self.assertIsNot(told, again)
                told.append(None)
                self.assertEqual(function(**arguments), again)
        self.assertEqual(many, 7)

    def test_what_is_told_is_new_to_what_was_given(self):
        for function, arguments in calls():
            given = {name: listed(worth, None) if name != "thing" else worth for name, worth in arguments.items()}
            told = repr(function(**given))
            answer = function(**given)
            for worth in given.values():
                if isinstance(worth, list):
                    worth.clear()
            self.assertEqual(repr(answer), told, function)


if __name__ == "__main__":
    unittest.main()
