"""Texts: ROWS by names, FLOORS, LAYINGS and PLANS line by line, and what reads them."""

from stairlaid.cells import fit_floor
from stairlaid.errors import BadLine, Unfit
from stairlaid.layings import fit_laying

FIGURES = "0123456789"
# The letters of the steps 0 and 1.
LETTERS = "ru"
# The name of what has nothing in it.
NOTHING = "-"


def row_name(row):
    """The name of a ROW: its feet with commas between."""
    return ",".join([str(foot) for foot in row]) if len(row) > 0 else NOTHING


def row_read(word):
    """The tuple of numbers with this name; None if there is none."""
    return () if word == NOTHING else _numbers_read(word, ",")


def _numbers_read(word, sign):
    """The tuple of the numbers that stand in the word with this sign between; None if one is none."""
    numbers = [_number_read(part) for part in word.split(sign)]
    return None if None in numbers else tuple(numbers)


def _number_read(word):
    figures = word[1:] if word.startswith("-") else word
    if figures == "" or not all([sign in FIGURES for sign in figures]):
        return None
    number = int(word)
    # Another word for it has a needless 0, or is "-0".
    return number if str(number) == word else None


def _pair_name(pair):
    x, y = pair
    return f"{x}.{y}"


def _pair_read(word):
    numbers = _numbers_read(word, ".")
    return numbers if numbers is not None and len(numbers) == 2 else None


def _steps_name(steps):
    return "".join([LETTERS[step] for step in steps]) if len(steps) > 0 else NOTHING


def _steps_read(word):
    if word == NOTHING:
        return ()
    if word == "" or not all([letter in LETTERS for letter in word]):
        return None
    return tuple([LETTERS.index(letter) for letter in word])


def floor_text(floor):
    """The text of a FLOOR: its least numbers, then its CELLS drawn, the uppermost line first."""
    own = fit_floor(floor)
    wide, high = [x for x, _ in own], [y for _, y in own]
    lines = [f"at {min(wide)} {min(high)}"]
    for y in range(max(high), min(high) - 1, -1):
        lines.append("".join(["#" if (x, y) in own else "." for x in range(min(wide), max(wide) + 1)]))
    return _text(lines)


def _text(lines):
    return "".join([f"{line}\n" for line in lines])


def laying_text(laying):
    """The text of a LAYING: a line for each of its STAIRS."""
    return _text([f"stair {_pair_name(cell)} {_steps_name(steps)}" for cell, steps in fit_laying(laying)])


def plan_text(plan):
    """The text of a PLAN: a line for each of its pairs of NAMES."""
    return _text([f"turn {_pair_name(name)} {_pair_name(other)}" for name, other in plan])


def _lines(text):
    lines = text.split("\n")
    # One line break at the end begins no further line, and "" has none.
    return lines[:-1] if lines[-1] == "" else lines


def _line_read(line, kind, first, second):
    """What both functions read of the two words behind this kind, a pair; None if the line is none such."""
    words = line.split(" ")
    if len(words) != 3 or words[0] != kind:
        return None
    told = (first(words[1]), second(words[2]))
    return None if None in told else told


def read_floor(text):
    """The FLOOR of this text; BadLine(number) for the first line that can not be, then Unfit()."""
    lines = _lines(text)
    least = _line_read(lines[0], "at", _number_read, _number_read) if lines != [] else None
    if least is None:
        raise BadLine(0)
    drawn = lines[1:]
    _fit_drawn(drawn)
    if "#" not in drawn[0] or "#" not in drawn[-1]:
        raise Unfit()
    if "#" not in [line[0] for line in drawn] or "#" not in [line[-1] for line in drawn]:
        raise Unfit()
    left, low = least
    return fit_floor(sorted([(left + at, low + up) for up, line in enumerate(drawn[::-1])
                             for at, sign in enumerate(line) if sign == "#"]))


def _fit_drawn(drawn):
    """BadLine(number) for the first line that is not drawn as it has to be, counted from 1; if there is none, too."""
    if drawn == []:
        raise BadLine(1)
    for number, line in enumerate(drawn, start=1):
        if line == "" or len(line) != len(drawn[0]) or not all([sign in "#." for sign in line]):
            raise BadLine(number)


def read_laying(text):
    """The LAYING of this text; BadLine(number) for the first line that can not be, then Unfit()."""
    stairs = []
    for number, line in enumerate(_lines(text)):
        stair = _line_read(line, "stair", _pair_read, _steps_read)
        if stair is None or (stairs != [] and stair <= stairs[-1]):
            raise BadLine(number)
        stairs.append(stair)
    return fit_laying(stairs)


def read_plan(text):
    """The pairs of pairs of numbers of this text; BadLine(number) for the first line that is none such."""
    pairs = []
    for number, line in enumerate(_lines(text)):
        pair = _line_read(line, "turn", _pair_read, _pair_read)
        if pair is None:
            raise BadLine(number)
        pairs.append(pair)
    return tuple(pairs)
