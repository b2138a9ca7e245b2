"""Stores, which keep values by keys at the houses of a net."""

from ringlaps.lookups import answer
from ringlaps.pieces import gate_of, ring_of


class Store:
    """What the houses of a net keep; each value is kept by so many houses of a ring."""

    def __init__(self, net, copies=1):
        self.net = net
        self.copies = copies
        # What is kept lies at a place, so that it outlasts the house there.
        self._tables = {}

    def holders(self, house, key):
        """Return the houses that are to keep the value of the key, as seen from the house."""
        return self._row_for(house, key)[: self.copies]

    def put(self, house, key, worth):
        """Make the holders of the key keep the value, and return them."""
        holders = self.holders(house, key)
        for holder in holders:
            table = self._tables.setdefault(holder, {})
            table[key] = worth
        return holders

    def find_worth(self, house, key):
        """Return the value that is met first from the first holder on, or None if none is."""
        for holder in self._row_for(house, key):
            table = self._tables.get(holder, {})
            if key in table:
                return table[key]
        return None

    def kept(self, house):
        """Return the values that the house keeps, by their keys."""
        self.net.check_house(house)
        table = self._tables.get(house, {})
        return {key: table[key] for key in sorted(table)}

    def move(self, net):
        """Work on another net from now on, and keep only what lies at houses of both nets."""
        old_houses = self.net.houses()
        both = [house for house in net.houses() if house in old_houses]
        self._tables = {house: self._tables.get(house, {}) for house in both}
        self.net = net

    def _row_for(self, house, key):
        """Return all houses of the ring that the house comes to, from the first holder on."""
        first = answer(self.net, gate_of(self.net, house), key)[0]
        ring = ring_of(self.net, house)
        at = ring.index(first)
        return [*ring[at:], *ring[:at]]
