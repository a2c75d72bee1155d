"""The errors that the package raises, those of all its files."""


def _copied(value):
    if isinstance(value, list):
        return [_copied(item) for item in value]
    if isinstance(value, tuple):
        return tuple([_copied(item) for item in value])
    return value


class NoCell(LookupError):
    """A CELL that is none of those asked."""

    def __init__(self, cell):
        self.cell = _copied(cell)


class NoName(LookupError):
    """A NAME that no STAIR bears."""

    def __init__(self, name):
        self.name = _copied(name)


class NoPoint(LookupError):
    """A POINT that is not one of the RIM."""

    def __init__(self, point):
        self.point = _copied(point)


class NothingDone(LookupError):
    """No deed is there to be taken back, or to be done again."""


class BadLine(ValueError):
    """A line of a text, counted from 0, that can not be read."""

    def __init__(self, number):
        self.number = _copied(number)


class Broken(ValueError):
    """The first place, counted from 0, at which a row can not go on."""

    def __init__(self, place):
        self.place = _copied(place)


class CanNot(ValueError):
    """What is asked for is not there, or is barred."""


class TooMany(ValueError):
    """There is more than the package goes through."""


class Unfit(ValueError):
    """What is passed in is not what it has to be."""
