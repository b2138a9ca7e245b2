"""Pieces that nothing disturbs any more, and houses that leave them."""

from ringlaps.errors import NotQuiet
from ringlaps.pieces import piece_of, turns_of


def is_quiet(net, house):
    """Return whether the piece of the house is a ring with all befores right and nothing under way."""
    piece = piece_of(net, house)
    return _befores_are_right(net, piece) and not _is_named_from_outside(net, piece)


def leave(net, house):
    """Take the house out of its quiet piece and return the turns of what remains of the piece."""
    if not is_quiet(net, house):
        raise NotQuiet(house)
    before = net.before_of(house)
    following = net.next_of(house)
    if following == house:
        net.take_out(house)
        return 0
    net.hold(before, following)
    net.set_before(following, before)
    net.take_out(house)
    return turns_of(net, following)


def _befores_are_right(net, piece):
    # A house has one before only, so this also finds out whether two houses have the same next;
    # if no two of a piece have, each house of it is the next of one.
    return all([net.before_of(net.next_of(house)) == house for house in piece])


def _is_named_from_outside(net, piece):
    """Return whether a house of another piece has a before in the piece, or a letter names it."""
    befores = net.befores()
    if any([befores[house] in piece for house in befores if house not in piece]):
        return True
    return any([place in piece for letter in net.letters() for place in letter[1:]])
