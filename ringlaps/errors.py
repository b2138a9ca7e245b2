"""The errors that the program raises; each keeps the values that it was made with."""


class RingError(ValueError):
    """The base class of all errors that the program raises."""


class OffCircle(RingError):
    """A place is not one of the places of the circle."""

    def __init__(self, place):
        self.place = place


class NoHouse(RingError):
    """There is no house at a place."""

    def __init__(self, place):
        self.place = place


class TakenPlace(RingError):
    """There is a house at a place already."""

    def __init__(self, place):
        self.place = place


class StillNamed(RingError):
    """A house is still named by another house or by a letter."""

    def __init__(self, place):
        self.place = place


class NotBetween(RingError):
    """A place does not lie between a house and its next."""

    def __init__(self, place):
        self.place = place


class SamePiece(RingError):
    """A house is in the same piece as the one that it should meet."""

    def __init__(self, place):
        self.place = place


class NotQuiet(RingError):
    """The piece of a house is not quiet."""

    def __init__(self, place):
        self.place = place


class NotAtRest(RingError):
    """A house is not the next of exactly one house."""

    def __init__(self, place):
        self.place = place


class Untold(RingError):
    """The piece of a house is neither true nor clear, so nothing is told of it."""

    def __init__(self, place):
        self.place = place


class NoLetter(RingError):
    """There is no letter with an index."""

    def __init__(self, at):
        self.at = at


class BadText(RingError):
    """A line of a text is not what it should be; lines are counted from 1."""

    def __init__(self, line):
        self.line = line


class UntrueNet(RingError):
    """A net says something that is not true."""

    def __init__(self, saying):
        self.saying = saying


class OpenWalk(RingError):
    """A walk does not end where it begins."""

    def __init__(self, first, last):
        self.first = first
        self.last = last


class WalksApart(RingError):
    """A walk does not end where the walk that goes on with it starts."""

    def __init__(self, end, start):
        self.end = end
        self.start = start


class NoOrder(RingError):
    """There is no ring order with a number of turns and an index."""

    def __init__(self, turns, index):
        self.turns = turns
        self.index = index


class BadDeed(RingError):
    """A tuple is not a deed."""

    def __init__(self, deed):
        self.deed = deed


class NothingToUndo(RingError):
    """No deed is recorded that could be taken back."""


class NothingToRedo(RingError):
    """No deed was taken back that could be done again."""
