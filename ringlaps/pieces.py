"""Ways along the nexts, the rings in which they end, and the pieces of a net."""

from ringlaps.circle import covers, far
from ringlaps.orders import from_least, order_turns


def way(net, start, end):
    """Return the houses of the way from start up to end, or None if it never meets end."""
    met = list(_lengths_from(net, start))
    net.check_house(end)
    if end not in met:
        return None
    return met[: met.index(end) + 1]


def way_length(net, start, end):
    """Return the length of the way from start up to end, or None if it never meets end."""
    lengths = _lengths_from(net, start)
    net.check_house(end)
    return lengths.get(end)


def house_at(net, start, distance):
    """Return where the way from start has come so far or farther first, and its length there."""
    lengths = _lengths_from(net, start)
    last = list(lengths)[-1]
    gate = net.next_of(last)
    lap = lengths[last] + far(net.size, last, gate) - lengths[gate]
    # From the gate on, each lap is like the first one, so whole laps need not be walked.
    skipped = max(0, distance - lengths[gate]) // lap * lap
    for house, length in lengths.items():
        if length + skipped >= distance:
            return (house, length + skipped)
    return (gate, lengths[gate] + lap + skipped)


def ring_of(net, house):
    """Return the ring in which the way from the house ends, from its least house."""
    met = list(_lengths_from(net, house))
    return from_least(met[met.index(_gate_after(net, met)) :])


def on_ring(net, house):
    """Return whether the way from the house comes back to it."""
    return gate_of(net, house) == house


def gate_of(net, house):
    """Return the first house of the way from the house that is on a ring."""
    return _gate_after(net, list(_lengths_from(net, house)))


def piece_of(net, house):
    """Return the houses whose ways end in the same ring as that of the house."""
    ring = ring_of(net, house)
    return [other for other in net.houses() if ring_of(net, other) == ring]


def pieces(net):
    """Return all pieces of the net, in ascending order of their least houses."""
    # Houses are taken in ascending order, so each piece is begun by its least house.
    found = {}
    for house in net.houses():
        found.setdefault(ring_of(net, house)[0], []).append(house)
    return list(found.values())


def least_of(net, house):
    """Return the least house of the piece of the house."""
    return piece_of(net, house)[0]


def turns_of(net, house):
    """Return how often the ring of the piece of the house goes round the circle."""
    return order_turns(net.size, ring_of(net, house))


def arrows_over(net, house, place):
    """Return the houses of the ring whose steps to their nexts cover the place."""
    ring = ring_of(net, house)
    return sorted([other for other in ring if covers(net.size, other, place, net.next_of(other))])


def _lengths_from(net, start):
    """Return the way length from start to each house that the way meets, in their order."""
    lengths = {}
    house = start
    length = 0
    while house not in lengths:
        lengths[house] = length
        following = net.next_of(house)
        length = length + far(net.size, house, following)
        house = following
    return lengths


def _gate_after(net, met):
    """Return the gate of a way that has just met all of its houses."""
    # The first house that a way meets again is the first one of it that is on a ring.
    return net.next_of(met[-1])
