"""Round letters: tuples (reader, writer, number, total, least) that go along the nexts.

The total is the length that the letter has come so far, up to its reader, and least is the
least house other than the writer that has read it on its way, or None.
"""

from ringlaps.circle import far


def lap_saying(letter):
    """Return what a round letter says: how long the way from its writer to its reader is."""
    reader, writer, _, total, _ = letter
    return (writer, reader, total)


def written_lap(net, house, number):
    """Return the round letter with this number as the house writes it."""
    following = net.next_of(house)
    return (following, house, number, far(net.size, house, following), None)


def handed_lap(net, letter):
    """Return the round letter as its reader hands it on."""
    reader, writer, number, total, least = letter
    following = net.next_of(reader)
    length = total + far(net.size, reader, following)
    return (following, writer, number, length, lesser(least, reader))


def lesser(known, house):
    """Return the lesser one of a known house, or None if there is none yet, and a house."""
    if known is None:
        return house
    return min(known, house)
