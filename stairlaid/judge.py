"""One judge: CLAIMS, the PAPERS against them and the REASONS for them."""

from stairlaid.cans import bar, can_lay, is_bar, lay
from stairlaid.cells import is_floor
from stairlaid.counts import names_of
from stairlaid.errors import Unfit
from stairlaid.layings import floor_of, is_laying, is_some_laying, size_of
from stairlaid.orders import ahead
from stairlaid.peels import laid_by
from stairlaid.shapes import sums
from stairlaid.told import clear_told, told_pairs
from stairlaid.turns import apart, is_plan, plan
from stairlaid.values import are_two_pairs, frozen, in_row, is_ascending, is_number, is_pair, way_between, ways_on


def _can_claimed(floor, size):
    return is_floor(floor) and is_number(size) and size >= 1


def _can_paper(floor, size):
    return None if can_lay(floor, size) else bar(floor, size)


def _can_is_paper(floor, size, thing):
    return is_bar(floor, size, thing)


def _can_reason(floor, size):
    return lay(floor, size) if can_lay(floor, size) else None


def _can_is_reason(floor, size, thing):
    return is_laying(floor, size, thing)


def _ahead_claimed(floor, size, name, other):
    if not _can_claimed(floor, size) or not are_two_pairs((name, other)) or not can_lay(floor, size):
        return False
    called = names_of(floor, size)
    return name in called and other in called and name != other and abs(name[0] - other[0]) <= size


def _ahead_paper(floor, size, name, other):
    called, told = clear_told(floor, size)
    # Each row of all NAMES with the told pairs as told is a ROW of some LAYING.
    row = in_row(called, (*told, (other, name)))
    return None if row is None else laid_by(floor, size, [foot for foot, _ in row])


def _ahead_is_paper(floor, size, name, other, thing):
    return is_laying(floor, size, thing) and ahead(thing, name, other) != 1


def _ahead_reason(floor, size, name, other):
    return way_between(ways_on(told_pairs(floor, size)), name, other)


def _ahead_is_reason(floor, size, name, other, thing):
    if type(thing) is not tuple or len(thing) < 2 or not all([is_pair(own) for own in thing]):
        return False
    told = set(told_pairs(floor, size))
    return thing[0] == name and thing[-1] == other and all([pair in told for pair in zip(thing, thing[1:])])


def _turns_claimed(laying, other, number):
    if not is_some_laying(laying) or not is_some_laying(other) or not is_number(number) or number < 0:
        return False
    return floor_of(laying) == floor_of(other) and size_of(laying[0]) == size_of(other[0])


def _turns_paper(laying, other, number):
    pairs = apart(laying, other)
    return pairs[:number + 1] if len(pairs) > number else None


def _turns_is_paper(laying, other, number, thing):
    if type(thing) is not tuple or not all([are_two_pairs(pair) for pair in thing]):
        return False
    pairs = apart(laying, other)
    return len(thing) == number + 1 and is_ascending(thing) and all([pair in pairs for pair in thing])


def _turns_reason(laying, other, number):
    way = plan(laying, other)
    return way if len(way) <= number else None


def _turns_is_reason(laying, other, number, thing):
    return is_plan(laying, other, thing) and len(thing) <= number


def _sums_claimed(floor, size, told):
    if not _can_claimed(floor, size) or type(told) is not tuple or not all([is_number(own) for own in told]):
        return False
    return can_lay(floor, size) and len(told) == len(sums(lay(floor, size)))


def _sums_paper(floor, size, told):
    laying = lay(floor, size)
    return laying if sums(laying) != told else None


def _sums_is_paper(floor, size, told, thing):
    return is_laying(floor, size, thing) and sums(thing) != told


def _sums_reason(floor, size, told):
    laying = lay(floor, size)
    return laying if sums(laying) == told else None


def _sums_is_reason(floor, size, told, thing):
    return is_laying(floor, size, thing) and sums(thing) == told


# By kinds of CLAIMS, of what stands behind the kind: how much it is, whether it makes a CLAIM, and the answers.
LENGTHS = {"can": 2, "ahead": 4, "turns": 3, "sums": 3}
CLAIMED = {"can": _can_claimed, "ahead": _ahead_claimed, "turns": _turns_claimed, "sums": _sums_claimed}
PAPER = {"can": _can_paper, "ahead": _ahead_paper, "turns": _turns_paper, "sums": _sums_paper}
IS_PAPER = {"can": _can_is_paper, "ahead": _ahead_is_paper, "turns": _turns_is_paper, "sums": _sums_is_paper}
REASON = {"can": _can_reason, "ahead": _ahead_reason, "turns": _turns_reason, "sums": _sums_reason}
IS_REASON = {"can": _can_is_reason, "ahead": _ahead_is_reason, "turns": _turns_is_reason, "sums": _sums_is_reason}


def is_claim(thing):
    """Whether thing is a CLAIM."""
    if type(thing) is not tuple or len(thing) == 0 or type(thing[0]) is not str:
        return False
    kind, parts = thing[0], thing[1:]
    if kind not in LENGTHS or len(parts) != LENGTHS[kind]:
        return False
    claimed = CLAIMED[kind]
    return claimed(*parts)


def _fit_claim(claim):
    """The kind of claim, and what stands behind it, with tuples in the place of lists; Unfit() if it is none."""
    own = frozen(claim)
    if not is_claim(own):
        raise Unfit()
    return own[0], own[1:]


def is_so(claim):
    """Whether claim stands: exactly if there is no PAPER against it."""
    return paper_against(claim) is None


def paper_against(claim):
    """A PAPER against claim; None if it stands."""
    kind, parts = _fit_claim(claim)
    paper = PAPER[kind]
    return paper(*parts)


def is_paper_against(claim, thing):
    """Whether thing is a PAPER against claim."""
    kind, parts = _fit_claim(claim)
    is_paper = IS_PAPER[kind]
    return is_paper(*parts, thing)


def reason_for(claim):
    """A REASON for claim; None if it does not stand."""
    kind, parts = _fit_claim(claim)
    reason = REASON[kind]
    return reason(*parts)


def is_reason_for(claim, thing):
    """Whether thing is a REASON for claim."""
    kind, parts = _fit_claim(claim)
    is_reason = IS_REASON[kind]
    return is_reason(*parts, thing)


def first_fallen(claims):
    """The number of the first of these CLAIMS that does not stand; None if all stand."""
    # All of them have to be CLAIMS, ahead of what is told of any.
    for claim in claims:
        _fit_claim(claim)
    for number, claim in enumerate(claims):
        if not is_so(claim):
            return number
    return None
