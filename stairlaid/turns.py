"""TURNS: two STAIRS exchange what lies side by side, and PLANS that lead from LAYING to LAYING."""

from stairlaid.errors import Broken, CanNot, Unfit
from stairlaid.layings import (cells_of, fit_laying, fit_name, floor_of, is_ahead, order_in, size_of, stair_of,
                               stairs_by_names)
from stairlaid.values import are_two_pairs, frozen, reached, ways_on


def turns(laying):
    """The set of the TURNS of laying."""
    stairs = stairs_by_names(laying)
    return tuple(sorted([pair for pair in order_in(stairs) if _turn(stairs, pair) is not None]))


def _turn(stairs, pair):
    """The two STAIRS by NAMES behind this TURN; None if the pair of NAMES is none."""
    name, other = pair
    low, high = min(pair), max(pair)
    cells, its = cells_of(stairs[low]), cells_of(stairs[high])
    step = high[0] - low[0]
    if step == 0 or step >= len(cells) or is_ahead(stairs[other], stairs[name]):
        return None
    # The lower one's CELLS from this STEP on lie on the diagonals of the higher one's first ones.
    lower, higher = stair_of(cells[:step] + its[:-step]), stair_of(cells[step:] + its[-step:])
    if lower is None or higher is None:
        return None
    return {low: lower, high: higher}


def next_layings(laying):
    """The list of the LAYINGS that come of laying by one TURN."""
    stairs = stairs_by_names(laying)
    come = [_turn(stairs, pair) for pair in order_in(stairs)]
    return [_as_laying({**stairs, **two}) for two in come if two is not None]


def _fit_pair(laying, pair):
    """The STAIRS by NAMES, and the pair; NoName(name) for the first that is no NAME."""
    stairs = stairs_by_names(laying)
    name, other = pair
    return stairs, (fit_name(stairs, name), fit_name(stairs, other))


def can_turn(laying, pair):
    """Whether pair is a TURN of laying; NoName(name) for the first that is no NAME."""
    stairs, own = _fit_pair(laying, pair)
    return _turn(stairs, own) is not None


def turned(laying, pair):
    """The LAYING behind this TURN; NoName(name) for the first that is no NAME, CanNot() if it is none."""
    stairs, own = _fit_pair(laying, pair)
    come = _turn(stairs, own)
    if come is None:
        raise CanNot()
    return _as_laying({**stairs, **come})


def _as_laying(stairs):
    return tuple(sorted(stairs.values()))


def turned_steps(laying, pair):
    """The triple of the STEPS that change, that of the STAIR named first ahead, and what both were.

    NoName(name) for the first that is no NAME, CanNot() if pair is no TURN.
    """
    stairs, own = _fit_pair(laying, pair)
    if _turn(stairs, own) is None:
        raise CanNot()
    (foot, _), (other, _) = own
    _, steps = stairs[own[0]]
    size = len(steps) + 1
    # The lower one changes where the higher one begins, the higher one where the lower one ends.
    number = other - foot if foot < other else size - (foot - other)
    return (number, size - number, steps[number - 1])


def between(laying, name, other):
    """The set of the NAMES over which a row of three or more, each AHEAD of the next, leads to other."""
    stairs = stairs_by_names(laying)
    own, last = fit_name(stairs, name), fit_name(stairs, other)
    ways = ways_on(order_in(stairs))
    return tuple(sorted([middle for middle in reached(ways, own) if last in reached(ways, middle)]))


def apart(laying, other):
    """The set of the pairs of NAMES, the lesser one first, that lie otherwise in laying than in other."""
    own, its = _fit_both(laying, other)
    return tuple(sorted([(min(pair), max(pair)) for pair in _turned_about(own, its)]))


def _fit_both(laying, other):
    """Both LAYINGS; Unfit() if one is none, then if they are not of one FLOOR and one size."""
    own, its = fit_laying(laying), fit_laying(other)
    if floor_of(own) != floor_of(its) or size_of(own[0]) != size_of(its[0]):
        raise Unfit()
    return own, its


def _turned_about(laying, other):
    """The pairs of NAMES, the first AHEAD of the second in laying, the second of the first in other."""
    there = set(order_in(stairs_by_names(other)))
    # With feet alike or just size apart the same one is AHEAD in all LAYINGS.
    return [(name, its) for name, its in order_in(stairs_by_names(laying)) if (its, name) in there]


def fewest(laying, other):
    """By how many TURNS other comes of laying, and by no fewer."""
    return len(apart(laying, other))


def plan(laying, other):
    """A PLAN of the fewest TURNS that leads from laying to other."""
    return plan_between(laying, other)


def plan_between(laying, other):
    """What plan tells, for those that call something else so."""
    own, its = _fit_both(laying, other)
    stairs, left, way = stairs_by_names(own), _turned_about(own, its), []
    while left != []:
        # One of these is always a TURN, and with it no other pair comes to lie otherwise.
        ready = [pair for pair in left if _turn(stairs, pair) is not None]
        stairs.update(_turn(stairs, ready[0]))
        left = [pair for pair in left if pair != ready[0]]
        way.append(ready[0])
    return tuple(way)


def is_plan(laying, other, thing):
    """Whether thing is a PLAN, however long, that leads from laying to other."""
    own, its = _fit_both(laying, other)
    if type(thing) is not tuple or not all([are_two_pairs(pair) for pair in thing]):
        return False
    try:
        return behind(own, thing) == its
    except Broken:
        return False


def behind(laying, plan):
    """The LAYING behind this PLAN; Broken(place) for the first pair that is no TURN in its turn."""
    stairs = stairs_by_names(laying)
    for place, pair in enumerate(frozen(plan)):
        known = are_two_pairs(pair) and pair[0] in stairs and pair[1] in stairs
        come = _turn(stairs, pair) if known else None
        if come is None:
            raise Broken(place)
        stairs.update(come)
    return _as_laying(stairs)
