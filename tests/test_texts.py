"""Point [21]: texts and what reads them, there and back, with each line bent, and at the edges."""

import random
import re
import unittest
from itertools import product

from stairlaid.errors import BadLine, Unfit
from stairlaid.texts import (floor_text, laying_text, plan_text, read_floor, read_laying, read_plan, row_name, row_read)
from tests.made import NO_FLOORS, NO_LAYINGS, block_of, families, floors, is_floor_plainly, moved

SLAB = block_of(3, 2)
UPRIGHT = (((0, 0), (1,)), ((1, 0), (1,)), ((2, 0), (1,)))
GREAT = 10 ** 999
NUMBERS = (0, 1, -1, 7, 10, -10, 99, 100, -305, 10 ** 6, -10 ** 6, GREAT, -GREAT, GREAT - 1)
# What is no number.
NO_NUMBERS = ("", "-", "--1", "+1", "01", "-01", "00", "-0", "1-", "1e3", "1_0", "0x1", "1.", ".1", "a", "1a", "#", "1 ",
              " 1", "\t1", "1\n", "0" * 1000)


def tried(case, function, text):
    """What a reader tells of text, or the number of the bad line as ("bad", number), or "unfit"."""
    try:
        return function(text)
    except BadLine as error:
        case.assertEqual((list(vars(error)), type(error.number)), (["number"], int))
        return ("bad", error.number)
    except Unfit:
        return "unfit"


def drawn_plainly(floor):
    xs, ys = [x for x, _ in floor], [y for _, y in floor]
    lines = ["at " + str(min(xs)) + " " + str(min(ys))]
    for y in range(max(ys), min(ys) - 1, -1):
        lines.append("".join(["#" if (x, y) in floor else "." for x in range(min(xs), max(xs) + 1)]))
    return "".join([line + "\n" for line in lines])


class Rows(unittest.TestCase):
    def test_there_and_back(self):
        for many in range(4):
            for row in product(NUMBERS[:9] if many == 3 else NUMBERS, repeat=many):
                word = ",".join([str(foot) for foot in row]) or "-"
                self.assertEqual((row_name(row), row_name(list(row)), row_read(word)), (word, word, row))
        self.assertEqual((row_name(()), row_name([]), row_read("-")), ("-", "-", ()))

    def test_no_names(self):
        for word in NO_NUMBERS:
            if word != "-":
                self.assertIsNone(row_read(word))
            for other in (f"{word},1", f"1,{word}", f"1,{word},2"):
                self.assertIsNone(row_read(other), other)
        for word in (",", "1,", ",1", "1,,2", "1, 2", "1 ,2", "1;2", "1.2", "1 2", "--", "-,", "-,1", "(1,)", "r"):
            self.assertIsNone(row_read(word), word)

    def test_all_short_words(self):
        number = "(0|-?[1-9][0-9]*)"
        for many in range(7):
            for word in map("".join, product("01-,", repeat=many)):
                row = row_read(word)
                self.assertIs(row is not None, re.fullmatch(f"-|{number}(,{number})*", word) is not None, word)
                if row is not None:
                    self.assertEqual(row_name(row), word)


class Floors(unittest.TestCase):
    def test_there_and_back(self):
        for floor in floors(6):
            for by in ((0, 0), (-3, 2), (GREAT, -GREAT)):
                own = moved(floor, by)
                text = drawn_plainly(own)
                self.assertEqual((floor_text(own), read_floor(text), read_floor(text[:-1])), (text, own, own))
        self.assertEqual(floor_text([[0, 1], [0, 2]]), "at 0 1\n#\n#\n")

    def test_all_small_drawings(self):
        seen = 0
        for wide in (1, 2, 3):
            for high in (1, 2, 3):
                for signs in product("#.", repeat=wide * high):
                    lines = ["".join(signs[at:at + wide]) for at in range(0, wide * high, wide)]
                    self.drawing(lines, wide, high)
                    seen += 1
        self.assertEqual(seen, 2 ** 9 + 2 * 2 ** 6 + 2 * 2 ** 3 + 2 ** 4 + 2 * 2 ** 2 + 2)

    def drawing(self, lines, wide, high):
        cells = sorted([(5 + x, -1 + high - 1 - up) for up, line in enumerate(lines) for x, sign in enumerate(line)
                        if sign == "#"])
        fits = is_floor_plainly(cells) and {x for x, _ in cells} >= {5, 4 + wide} and {y for _, y in cells} >= {-1, high - 2}
        told = tried(self, read_floor, "\n".join(["at 5 -1", *lines]))
        self.assertEqual(told, tuple(cells) if fits else "unfit")

    def test_no_least_numbers(self):
        for line in ("", "at", "at 0", "at 0 0 0", "at  0 0", "at 0  0", " at 0 0", "at 0 0 ", "at\t0 0", "At 0 0", "at 0,0",
                     "at 0.0", "ta 0 0", "at - 0", "at 0 -", "#", "0 0", "at 0 0#", *[f"at {word} 0" for word in NO_NUMBERS],
                     *[f"at 0 {word}" for word in NO_NUMBERS]):
            if "\n" not in line:
                for behind in ("", "\n", "\n#", "\n#\n", "\n\n", "\nbad"):
                    self.assertEqual(tried(self, read_floor, line + behind), ("bad", 0), line)

    def test_bad_lines(self):
        for text, told in (("at 0 0", 1), ("at 0 0\n", 1), ("at 0 0\n\n", 1), ("at 0 0\n\n#", 1), ("at 0 0\n##\n#", 2),
                           ("at 0 0\n#\n##", 2), ("at 0 0\n##\n##\n\n", 3), ("at 0 0\n##\n\n##\n", 2), ("at 0 0\n#o", 1),
                           ("at 0 0\n# ", 1), ("at 0 0\n #", 1), ("at 0 0\n##\n# \n", 2), ("at 0 0\n##\n#\t\n", 2),
                           ("at 0 0\n##\n#X\n#", 2), ("at 0 0\n##\n#.\n#\n#X", 3), ("at 0 0\nx", 1), ("at 0 0\n..\n.x", 2),
                           ("at 0 0\n\nat 0 0", 1), ("at 0 0\n#\nat 0 0", 2), ("at 0 0\n##\r\n##", 1)):
            self.assertEqual(tried(self, read_floor, text), ("bad", told), repr(text))

    def test_unfit(self):
        for text in ("at 0 0\n.", "at 0 0\n..\n..", "at 0 0\n#.\n.#", "at 0 0\n###\n#.#\n###\n", "at 0 0\n.#", "at 0 0\n#.",
                     "at 0 0\n#\n.", "at 0 0\n.\n#", "at 0 0\n..\n##\n", "at 0 0\n##\n..", "at 0 0\n.#\n.#", "at 0 0\n#.\n#.",
                     "at 0 0\n#.#", "at 0 0\n.###\n##.#\n.###", "at 0 0\n##.\n#.#\n###"):
            self.assertEqual(tried(self, read_floor, text), "unfit", text)

    def test_wrong(self):
        for wrong in NO_FLOORS:
            with self.assertRaises(Unfit):
                floor_text(wrong)


class Layings(unittest.TestCase):
    def test_there_and_back(self):
        for _, _, layings in families(5, 3):
            for laying in layings:
                lines = [f"stair {x}.{y} {''.join(['ru'[step] for step in steps]) or '-'}" for (x, y), steps in laying]
                text = "\n".join(lines) + "\n"
                self.assertEqual((laying_text(laying), read_laying(text), read_laying(text[:-1])), (text, laying, laying))
        great = (((-GREAT, GREAT), ()),)
        self.assertEqual(read_laying(laying_text(great)), great)
        self.assertEqual(laying_text([[[0, 0], [0, 1]]]), "stair 0.0 ru\n")

    def test_bad_lines(self):
        good = "stair 0.0 u"
        for line in ("", "stair", "stair 0.0", "stair  1.0 u", "stair 1.0  u", " stair 1.0 u", "stair 1.0 u ", "stair 1.0 ",
                     "stair 1.0\tu",
                     "Stair 1.0 u", "turn 1.0 u", "stair 1.0 U", "stair 1.0 d", "stair 1.0 1", "stair 1.0 -u", "stair 1.0 --",
                     "stair 1.0 u u", "stair 1 u", "stair 1,0 u", "stair 1.0.0 u", "stair 1. u", "stair .0 u", "stair (1,0) u",
                     *[f"stair {word}.0 u" for word in NO_NUMBERS if "\n" not in word],
                     *[f"stair 1.{word} u" for word in NO_NUMBERS if "\n" not in word]):
            for text, told in ((line + "\n", 0), (line + "\n" + good, 0), (good + "\n" + line + "\n", 1),
                               (good + "\n" + line + "\n" + line + "\n", 1)):
                self.assertEqual(tried(self, read_laying, text), ("bad", told), repr(text))

    def test_not_greater_than_that_ahead(self):
        for lines, told in ((("0.0 u", "0.0 u"), 1), (("1.0 u", "0.0 u"), 1), (("0.0 u", "0.0 r"), 1), (("0.0 u", "0.0 -"), 1),
                            (("0.0 u", "1.0 u", "2.0 u", "1.5 u"), 3), (("0.0 u", "2.0 u", "1.0 u", "x"), 2),
                            (("0.0 u", "x", "0.0 u"), 1), (("0.1 u", "0.-1 u"), 1)):
            text = "".join([f"stair {line}\n" for line in lines])
            self.assertEqual(tried(self, read_laying, text), ("bad", told), text)

    def test_unfit(self):
        for text in ("", "stair 0.0 u\nstair 0.0 ur\n", "stair 0.0 u\nstair 1.0 uu", "stair 0.0 u\nstair 2.0 u", "stair 0.0 -\n"
                     "stair 1.1 -", "stair 0.0 u\nstair 0.1 u", "stair 0.0 r\nstair 0.0 u"):
            self.assertEqual(tried(self, read_laying, text), "unfit", text)
        self.assertEqual(tried(self, read_laying, "\n"), ("bad", 0))

    def test_wrong(self):
        for wrong in NO_LAYINGS:
            with self.assertRaises(Unfit):
                laying_text(wrong)


class Plans(unittest.TestCase):
    def test_there_and_back(self):
        chance = random.Random(21)
        for many in range(12):
            rows = [tuple([(chance.choice(NUMBERS), chance.choice(NUMBERS)) for _ in (0, 1)]) for _ in range(many)]
            text = "".join([f"turn {a}.{b} {c}.{d}\n" for (a, b), (c, d) in rows])
            self.assertEqual((plan_text(tuple(rows)), read_plan(text)), (text, tuple(rows)))
            self.assertEqual(read_plan(text[:-1]), tuple(rows))
            self.assertEqual(plan_text([[list(name) for name in pair] for pair in rows]), text)
        self.assertEqual((plan_text(()), plan_text([]), read_plan("")), ("", "", ()))
        self.assertEqual(read_plan("turn 0.0 0.0\nturn 0.0 0.0"), (((0, 0), (0, 0)),) * 2)

    def test_bad_lines(self):
        good = "turn 0.0 1.0"
        for line in ("", "turn", "turn 0.0", "turn 0.0 1.0 2.0", "turn  0.0 1.0", "turn 0.0  1.0", " turn 0.0 1.0", "turn 0.0 1.0 ",
                     "turn 0.0\t1.0", "turns 0.0 1.0", "TURN 0.0 1.0", "stair 0.0 u", "turn 0.0 1", "turn 0 1.0", "turn 0,0 1,0",
                     "turn 0.0 -", "turn - 0.0", "turn 0.0.0 1.0", "0.0 1.0",
                     *[f"turn {word}.0 1.0" for word in NO_NUMBERS if "\n" not in word],
                     *[f"turn 0.0 1.{word}" for word in NO_NUMBERS if "\n" not in word]):
            for text, told in ((line + "\n", 0), (line + "\n" + good, 0), (good + "\n" + line + "\n", 1),
                               (good + "\n" + good + "\n" + line + "\n" + line + "\n", 2)):
                self.assertEqual(tried(self, read_plan, text), ("bad", told), repr(text))

    def test_line_breaks(self):
        for text, told in (("\n", 0), ("\n\n", 0), ("turn 0.0 1.0\n\n", 1), ("\nturn 0.0 1.0", 0), ("turn 0.0\n1.0", 0)):
            self.assertEqual(tried(self, read_plan, text), ("bad", told), repr(text))


class Bent(unittest.TestCase):
    def test_what_is_read_has_just_this_text(self):
        # A sign taken out, put in or changed: it is refused, or it is the text of something else.
        chance, refused, others = random.Random(22), 0, 0
        for function, write, text in ((read_floor, floor_text, floor_text(block_of(3, 2)[:5])),
                                      (read_laying, laying_text, laying_text(UPRIGHT)),
                                      (read_plan, plan_text, "turn 0.0 10.12\nturn -3.1 0.-4\n")):
            for _ in range(1500):
                at, sign = chance.randrange(len(text) + 1), chance.choice("#. -0123456789arut\n\t")
                bent = text[:at] + chance.choice(("", sign)) + text[at + chance.randint(0, 1):]
                told = tried(self, function, bent)
                if told == "unfit" or told[:1] == ("bad",):
                    refused += 1
                else:
                    others += 1
                    self.assertIn(write(told), (bent, bent + "\n"))
        self.assertGreater(min(refused, others), 200)


if __name__ == "__main__":
    unittest.main()
