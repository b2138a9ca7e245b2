"""Walks along the places of a circle."""

from ringlaps.circle import covers, far
from ringlaps.errors import OpenWalk, WalksApart


class Walk:
    """A row of at least one place; each step goes up to the following place."""

    def __init__(self, size, places):
        self.size = size
        self.places = tuple(places)

    def __add__(self, other):
        end = self.places[-1]
        start = other.places[0]
        if end != start:
            raise WalksApart(end, start)
        return Walk(self.size, self.places + other.places[1:])

    def __contains__(self, place):
        return place in self.places

    def __iter__(self):
        return iter(self.places)

    def total(self):
        """Return the length of the walk."""
        return sum([far(self.size, start, end) for start, end in self._steps()])

    def crossings(self, place):
        """Return the number of steps that cover the place."""
        return len([start for start, end in self._steps() if covers(self.size, start, place, end)])

    def is_closed(self):
        """Return whether the walk ends where it begins."""
        return self.places[0] == self.places[-1]

    def turns(self):
        """Return how often a closed walk goes round the circle."""
        if not self.is_closed():
            raise OpenWalk(self.places[0], self.places[-1])
        return self.total() // self.size

    def backwards(self):
        """Return the walk through the same places in reverse order."""
        return Walk(self.size, self.places[::-1])

    def _steps(self):
        return list(zip(self.places, self.places[1:]))
