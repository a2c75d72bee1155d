"""A Board: a LAYING whose STAIRS are turned, with all deeds at hand to be taken back and done again."""

from stairlaid.errors import NothingDone
from stairlaid.layings import fit_laying
from stairlaid.turns import behind, can_turn, fewest, plan_between, turned, turns
from stairlaid.values import frozen


class Board:
    """A LAYING that is turned, deed by deed."""

    def __init__(self, laying):
        self._first = fit_laying(laying)
        # A deed is kept as its name, its TURNS, and the LAYING behind it.
        self._done = []
        self._undone = []

    def turn(self, pair):
        """Does this TURN; NoName(name) for no NAME, CanNot() if it is none."""
        self._do("turn", (frozen(pair),), turned(self.laying(), pair))

    def _do(self, word, way, laying):
        self._done.append((word, way, laying))
        self._undone = []

    def follow(self, plan):
        """Does all TURNS of this PLAN, as one deed; Broken(place) for the first that is none."""
        self._do("follow", frozen(plan), behind(self.laying(), plan))

    def back_to(self, laying):
        """Does the fewest TURNS that lead to laying, as one deed, and tells how many they are."""
        way = plan_between(self.laying(), laying)
        self._do("back_to", way, fit_laying(laying))
        return len(way)

    def undo(self):
        """Takes the last deed back, and tells its name; NothingDone() if there is none."""
        if self._done == []:
            raise NothingDone()
        deed = self._done.pop()
        self._undone.append(deed)
        return deed[0]

    def redo(self):
        """Does again the last deed that is taken back, and tells its name; NothingDone() if there is none."""
        if self._undone == []:
            raise NothingDone()
        deed = self._undone.pop()
        self._done.append(deed)
        return deed[0]

    def first(self):
        """The LAYING that was handed in."""
        return self._first

    def laying(self):
        """The LAYING now."""
        return self._done[-1][2] if self._done != [] else self._first

    def plan(self):
        """The tuple of all TURNS that were done and are not taken back."""
        return tuple([pair for deed in self._done for pair in deed[1]])

    def turns_now(self):
        """The TURNS of the LAYING now."""
        return turns(self.laying())

    def could(self, pair):
        """Whether pair is a TURN of the LAYING now; NoName(name) for no NAME."""
        return can_turn(self.laying(), pair)

    def apart_now(self):
        """How many TURNS lead from the first LAYING to that now, at the fewest."""
        return fewest(self._first, self.laying())

    def twin(self):
        """Another Board that holds the same, with deeds of its own from now on."""
        mate = Board(self._first)
        mate._done = list(self._done)
        mate._undone = list(self._undone)
        return mate

    def __eq__(self, other):
        return isinstance(other, Board) and self.first() == other.first() and self.laying() == other.laying()
