"""Point [22]: a Board, by rows of deeds by chance beside a plain one, and at the edges."""

import random
import unittest

from stairlaid.board import Board
from stairlaid.cans import lay
from stairlaid.errors import Broken, CanNot, NoName, NothingDone, Unfit
from stairlaid.shapes import middles, sums
from stairlaid.turns import apart, behind, fewest, is_plan, turned, turns
from tests.made import NO_LAYINGS, block_of, laid_ones, layings_plainly, named_plainly

UPRIGHT = (((0, 0), (1,)), ((1, 0), (1,)), ((2, 0), (1,)))
RIGHT, LEFT = (((0, 0), (1,)), ((1, 0), (0,)), ((1, 1), (0,))), (((0, 0), (0,)), ((0, 1), (0,)), ((2, 0), (1,)))
TO_LEFT, TO_RIGHT = ((0, 0), (1, 0)), ((1, 0), (2, 0))
BEDS, POSTS = tuple([((0, y), (0, 0)) for y in (0, 1, 2)]), tuple([((x, 0), (1, 1)) for x in (0, 1, 2)])
WAY = (((1, 0), (0, 0)), ((2, 0), (0, 0)), ((2, 0), (1, 0)))
ELSEWHERE = (((1, 0), (1,)), ((2, 0), (1,)), ((3, 0), (1,)))
TILES = tuple([(cell, ()) for cell in block_of(3, 2)])


class Plainly:
    """Deeds, done and taken back, each as its name and its TURNS; all else is told from the first LAYING on."""

    def __init__(self, first, done=(), undone=()):
        self.first, self.done, self.undone = first, list(done), list(undone)

    def plan(self):
        return tuple([pair for _, way in self.done for pair in way])

    def laying(self):
        return behind(self.first, self.plan())

    def do(self, word, way):
        self.done.append((word, tuple(way)))
        self.undone = []

    def take(self, this, that):
        if not this:
            return None
        that.append(this.pop())
        return that[-1][0]


def state(board):
    return (board.first(), board.laying(), board.plan(), board.turns_now(), board.apart_now())


def depths(board):
    """How many deeds can be taken back, and how many be done again, by twins."""
    told = []
    for word in ("undo", "redo"):
        twin, many = board.twin(), 0
        try:
            while True:
                getattr(twin, word)()
                many += 1
        except NothingDone:
            told.append(many)
    return tuple(told)


class Deeds(unittest.TestCase):
    def test_rows_of_deeds_by_chance(self):
        chance, words = random.Random(22), set()
        rows = [row for row in laid_ones(6, 6, least=2)]
        for _ in range(60):
            _, _, layings = chance.choice(rows)
            board, plain = Board(layings[0]), Plainly(layings[0])
            for _ in range(12):
                words.add(self.deed(chance, board, plain, layings))
                self.same(board, plain)
        self.assertEqual(words, {"turn", "follow", "back_to", "undo", "redo", "nothing to undo", "nothing to redo", "refused"})

    def deed(self, chance, board, plain, layings):
        word = chance.choice(("turn", "turn", "follow", "back_to", "undo", "undo", "redo", "redo", "refused"))
        if word == "turn":
            pair = chance.choice(board.turns_now())
            self.assertIsNone(board.turn(pair))
            plain.do(word, (pair,))
        elif word == "follow":
            way, laying = [], plain.laying()
            for _ in range(chance.randint(0, 3)):
                way.append(chance.choice(turns(laying)))
                laying = turned(laying, way[-1])
            self.assertIsNone(board.follow(tuple(way)))
            plain.do(word, way)
        elif word == "back_to":
            self.back_to(board, plain, chance.choice(layings))
        elif word == "refused":
            self.refused(board, layings)
        else:
            return self.pile(word, board, plain)
        return word

    def back_to(self, board, plain, laying):
        was, known = plain.laying(), board.plan()
        many = board.back_to(laying)
        self.assertEqual((many, board.laying()), (fewest(was, laying), laying))
        # Which TURNS they are is not told, so that they are taken from there.
        way = board.plan()[len(known):]
        self.assertEqual((board.plan()[:len(known)], len(way)), (known, many))
        self.assertIs(is_plan(was, laying, way), True)
        plain.do("back_to", way)

    def refused(self, board, layings):
        was, deep = state(board), depths(board)
        own = board.turns_now()[0]
        wrong = {CanNot: lambda: board.turn(own[::-1]), NoName: lambda: board.turn((own[0], (99, 99))),
                 Broken: lambda: board.follow((own, own)), Unfit: lambda: board.back_to(layings[0][1:])}
        for error, deed in wrong.items():
            with self.assertRaises(error):
                deed()
            self.assertEqual((state(board), depths(board)), (was, deep))

    def pile(self, word, board, plain):
        told = plain.take(*((plain.done, plain.undone) if word == "undo" else (plain.undone, plain.done)))
        if told is not None:
            self.assertEqual(getattr(board, word)(), told)
            return word
        with self.assertRaises(NothingDone):
            getattr(board, word)()
        return f"nothing to {word}"

    def same(self, board, plain):
        laying = plain.laying()
        self.assertEqual(state(board), (plain.first, laying, plain.plan(), turns(laying), len(apart(plain.first, laying))))
        self.assertEqual(depths(board), (len(plain.done), len(plain.undone)))
        self.assertEqual((sums(board.laying()), middles(board.laying())), (sums(plain.first), middles(plain.first)))
        more = len(board.plan()) - board.apart_now()
        self.assertTrue(more >= 0 and more % 2 == 0)
        self.assertIs(is_plan(board.first(), board.laying(), board.plan()), True)
        self.assertIs(board == Board(plain.first), laying == plain.first)

    def test_nothing_done(self):
        for word in ("undo", "redo"):
            board = Board(UPRIGHT)
            with self.assertRaises(NothingDone) as caught:
                getattr(board, word)()
            self.assertEqual(vars(caught.exception), {})
            self.assertEqual(state(board), (UPRIGHT, UPRIGHT, (), (TO_LEFT, TO_RIGHT), 0))

    def test_redo_behind_a_new_deed(self):
        for deed in (lambda own: own.turn(TO_RIGHT), lambda own: own.follow(()), lambda own: own.back_to(UPRIGHT)):
            board = Board(UPRIGHT)
            board.turn(TO_LEFT)
            self.assertEqual(board.undo(), "turn")
            deed(board)
            with self.assertRaises(NothingDone):
                board.redo()
            self.assertEqual(depths(board), (1, 0))

    def test_redo_behind_a_refused_deed_and_looks(self):
        board = Board(UPRIGHT)
        board.turn(TO_LEFT)
        board.undo()
        for error, deed in ((CanNot, lambda: board.turn(((0, 0), (2, 0)))), (NoName, lambda: board.turn(((0, 0), (5, 0)))),
                            (Broken, lambda: board.follow((TO_RIGHT, TO_RIGHT))), (Unfit, lambda: board.back_to(TILES)),
                            (NothingDone, board.undo), (NoName, lambda: board.could(((0, 0), (5, 0))))):
            with self.assertRaises(error):
                deed()
        self.assertIs(board.could(TO_LEFT), True)
        self.assertEqual((board.plan(), board.twin() == board, board.redo(), board.laying()), ((), True, "turn", LEFT))

    def test_no_turns_as_one_deed(self):
        board = Board(UPRIGHT)
        self.assertEqual((board.follow(()), board.follow([]), board.back_to(UPRIGHT)), (None, None, 0))
        self.assertEqual((board.plan(), board.laying()), ((), UPRIGHT))
        self.assertEqual([board.undo(), board.undo(), board.undo()], ["back_to", "follow", "follow"])
        self.assertEqual([board.redo(), board.redo(), board.redo()], ["follow", "follow", "back_to"])

    def test_a_plan_as_one_deed(self):
        board = Board(BEDS)
        self.assertIsNone(board.follow(WAY))
        self.assertEqual((board.laying(), board.plan(), board.apart_now()), (POSTS, WAY, 3))
        self.assertEqual((board.undo(), board.laying(), board.plan(), board.redo(), board.plan()),
                         ("follow", BEDS, (), "follow", WAY))
        self.assertEqual((board.back_to(BEDS), len(board.plan()), board.undo(), board.laying()), (3, 6, "back_to", POSTS))

    def test_three_hundred_turns(self):
        board = Board(BEDS)
        for _ in range(75):
            board.turn(WAY[0])
            board.turn(WAY[0][::-1])
        board.follow((WAY[0], WAY[0][::-1]) * 75)
        self.assertEqual((len(board.plan()), board.apart_now(), board.laying()), (300, 0, BEDS))
        self.assertEqual((board.undo(), len(board.plan())), ("follow", 150))

    def test_as_great_as_the_bounds(self):
        for size in range(1, 7):
            floor = block_of(8, 5) if size in (1, 2, 4, 5) else block_of(6, 6)
            board, chance = Board(lay(floor, size)), random.Random(size)
            for _ in range(30 if size > 1 else 0):
                board.turn(chance.choice(board.turns_now()))
            far = board.apart_now()
            self.assertEqual((board.back_to(board.first()), board.apart_now()), (far, 0))


class Errors(unittest.TestCase):
    def test_turn_and_could(self):
        board = Board(UPRIGHT)
        for pair, told in ((((0, 0), (5, 0)), (5, 0)), (((5, 0), (9, 9)), (5, 0)), (((0, 0), (True, 0)), (True, 0)),
                           ([[0, 1], [0, 0]], (0, 1))):
            for deed in (board.turn, board.could):
                with self.assertRaises(NoName) as caught:
                    deed(pair)
                self.assertEqual(repr(caught.exception.name), repr(told))
        for pair in (((0, 0), (2, 0)), ((1, 0), (0, 0)), ((0, 0), (0, 0))):
            self.assertIs(board.could(pair), False)
            with self.assertRaises(CanNot):
                board.turn(pair)
        self.assertIs(board.could(TO_LEFT), True)

    def test_follow(self):
        board = Board(UPRIGHT)
        board.turn(TO_LEFT)
        for plan, told in ((((TO_LEFT),), 0), ((TO_LEFT[::-1], TO_LEFT[::-1]), 1), ((((2, 0), (1, 0)), ((0, 0), (2, 0))), 0),
                           ((TO_LEFT[::-1], ((0, 0), (9, 9))), 1)):
            with self.assertRaises(Broken) as caught:
                board.follow(plan)
            self.assertEqual(vars(caught.exception), {"place": told})
        self.assertEqual((board.laying(), board.plan()), (LEFT, (TO_LEFT,)))

    def test_back_to(self):
        board = Board(UPRIGHT)
        board.turn(TO_LEFT)
        for wrong in (*NO_LAYINGS, ELSEWHERE, TILES, UPRIGHT[:2], UPRIGHT[::-1], BEDS):
            with self.assertRaises(Unfit):
                board.back_to(wrong)
            self.assertEqual((board.laying(), board.plan()), (LEFT, (TO_LEFT,)))

    def test_no_laying(self):
        for wrong in NO_LAYINGS:
            with self.assertRaises(Unfit):
                Board(wrong)


class Twins(unittest.TestCase):
    def test_piles_of_their_own(self):
        desk = Board(UPRIGHT)
        desk.turn(TO_LEFT)
        desk.back_to(RIGHT)
        desk.undo()
        mate = desk.twin()
        self.assertEqual((desk == mate, desk is mate, state(desk) == state(mate), depths(mate)), (True, False, True, (1, 1)))
        self.assertEqual((mate.redo(), mate.laying(), desk.laying()), ("back_to", RIGHT, LEFT))
        self.assertEqual((desk.undo(), desk.laying(), mate.laying(), mate.plan()[0]), ("turn", UPRIGHT, RIGHT, TO_LEFT))
        self.assertEqual((desk.redo(), desk.redo(), desk == mate), ("turn", "back_to", True))
        mate.follow(())
        self.assertEqual((depths(desk), depths(mate), desk == mate), ((2, 0), (3, 0), True))
        mate.undo()
        mate.undo()
        mate.turn(TO_LEFT[::-1])
        self.assertEqual((desk.laying(), mate.laying()), (RIGHT, UPRIGHT))
        with self.assertRaises(NothingDone):
            mate.redo()

    def test_equal(self):
        layings = layings_plainly(block_of(3, 2), 2)
        boards = []
        for first in layings:
            for now in layings:
                own = Board(first)
                own.back_to(now)
                boards.append((first, now, own))
        for first, now, own in boards:
            for other, then, its in boards:
                same = (first, now) == (other, then)
                self.assertEqual((own == its, own != its), (same, not same))
        # By whatever way it is come to.
        around = Board(UPRIGHT)
        around.turn(TO_LEFT)
        around.turn(TO_LEFT[::-1])
        self.assertEqual((around == Board(UPRIGHT), around != Board(UPRIGHT), len(around.plan())), (True, False, 2))

    def test_other_things(self):
        board = Board(UPRIGHT)
        for thing in (None, True, 0, "", UPRIGHT, list(UPRIGHT), (UPRIGHT, UPRIGHT), {}, object(), Board, Exception()):
            self.assertIs(board == thing, False)
            self.assertIs(board != thing, True)
            self.assertIs(thing == board, False)
        self.assertEqual((board in [None, board], board not in [UPRIGHT]), (True, True))


class Copies(unittest.TestCase):
    def test_what_is_given_is_copied(self):
        given = [[[0, 0], [1]], [[1, 0], [1]], [[2, 0], [1]]]
        pair, plan = [[0, 0], [1, 0]], [[[1, 0], [0, 0]], [[1, 0], [2, 0]]]
        other = [[[0, 0], [1]], [[1, 0], [1]], [[2, 0], [1]]]
        kept = repr((given, pair, plan, other))
        board = Board(given)
        board.turn(pair)
        board.follow(plan)
        self.assertEqual((board.could([[1, 0], [2, 0]]), board.back_to(other)), (False, 1))
        self.assertEqual(repr((given, pair, plan, other)), kept)
        was = state(board)
        for worth in (given, pair, plan, other):
            worth[0].clear()
            worth.clear()
        self.assertEqual(state(board), was)
        self.assertEqual((board.first(), board.plan()[:3]), (UPRIGHT, (TO_LEFT, TO_LEFT[::-1], TO_RIGHT)))
        self.assertEqual((board.undo(), board.laying(), board.undo(), board.laying()), ("back_to", RIGHT, "follow", LEFT))

    def test_by_names(self):
        board = Board(laying=UPRIGHT)
        self.assertEqual((board.turn(pair=TO_LEFT), board.follow(plan=(TO_LEFT[::-1],)), board.back_to(laying=RIGHT),
                          board.could(pair=TO_RIGHT)), (None, None, 1, False))

    def test_kinds_of_values(self):
        board = Board(UPRIGHT)
        board.turn(TO_LEFT)
        self.assertEqual([type(own) for own in (*state(board), board.undo(), board.redo(), board.back_to(RIGHT), board.twin(),
                                                board.could(TO_LEFT))], [tuple] * 4 + [int, str, str, int, Board, bool])
        self.assertEqual(list(named_plainly(board.first())), [(0, 0), (1, 0), (2, 0)])

    def test_methods_stand_in_the_class(self):
        for word in ("turn", "follow", "back_to", "undo", "redo", "first", "laying", "plan", "turns_now", "could", "apart_now",
                     "twin", "__init__", "__eq__"):
            self.assertIn(word, vars(Board))
        self.assertEqual((Board.__module__, Board.__bases__), ("stairlaid.board", (object,)))


if __name__ == "__main__":
    unittest.main()
