"""What a net says of the lengths of its ways, and what of it is true."""

from ringlaps.circle import far
from ringlaps.pieces import house_at, piece_of


def sayings(net):
    """Return what the net says: by its nexts, by its befores, then by its letters."""
    pairs = list(net.nexts().items())
    pairs.extend([(before, house) for house, before in net.befores().items()])
    for letter in net.letters():
        pairs.extend(_pairs_said_by(letter))
    return [(start, end, far(net.size, start, end)) for start, end in pairs]


def holds_true(net, saying):
    """Return whether the way from the first house has that length when it comes to the second."""
    start, end, length = saying
    # Without a step there is no length, so a length below 1 is never come to.
    return length >= 1 and house_at(net, start, length) == (end, length)


def first_untrue(net):
    """Return the first saying of the net that is not true, or None if all are true."""
    for saying in sayings(net):
        if not holds_true(net, saying):
            return saying
    return None


def piece_is_true(net, house):
    """Return whether all sayings of the piece of the house are true."""
    return not untrue_of_piece(net, house)


def untrue_of_piece(net, house):
    """Return the sayings that name a house of the piece of the house and are not true."""
    piece = piece_of(net, house)
    named = [saying for saying in sayings(net) if saying[0] in piece or saying[1] in piece]
    return [saying for saying in named if not holds_true(net, saying)]


def _pairs_said_by(letter):
    word, reader, sender, *named = letter
    if word == "tell":
        return [(sender, reader)]
    if word == "answer":
        return [(named[0], sender)]
    return []
