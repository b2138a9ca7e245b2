"""Pieces that come to one plain ring although some of their sayings may be untrue."""

from ringlaps.errors import Untold
from ringlaps.pieces import on_ring, piece_of, pieces, turns_of, way_length
from ringlaps.sayings import piece_is_true, untrue_of_piece


def distances_to(net, z):
    """Return the way length to z for each house whose way meets z."""
    lengths = {house: way_length(net, house, z) for house in piece_of(net, z)}
    return {house: length for house, length in lengths.items() if length is not None}


def clear_fault(net, z):
    """Return the first reason why the piece of z is not clear towards z, or None."""
    return _fault_towards(net, z, untrue_of_piece(net, z))


def is_clear(net, z):
    """Return whether the piece of z is clear towards z."""
    return clear_fault(net, z) is None


def clear_towards(net, house):
    """Return the houses of the piece of the house towards which the piece is clear."""
    untrue = untrue_of_piece(net, house)
    return [z for z in piece_of(net, house) if _fault_towards(net, z, untrue) is None]


def judge_clear(net, z, distances):
    """Return whether the piece of z is clear towards z and these are the distances to z."""
    if z not in net.houses():
        return False
    return is_clear(net, z) and distances == distances_to(net, z)


def check_told(net, piece):
    """Raise Untold if the piece is neither true nor clear towards any of its houses."""
    least = piece[0]
    if not piece_is_true(net, least) and not clear_towards(net, least):
        raise Untold(least)


def check_all_told(net):
    """Raise Untold for the first piece that is neither true nor clear towards any house."""
    for piece in pieces(net):
        check_told(net, piece)


def _fault_towards(net, z, untrue):
    """Return what clear_fault returns, given the untrue sayings of the piece in their order."""
    if not on_ring(net, z):
        return ("off ring", z)
    turns = turns_of(net, z)
    if turns != 1:
        return ("turns", turns)
    # z is on the ring, so these are all houses of the piece; and a true saying leads from a
    # house to one of the same piece, so every saying that is astray is among the untrue ones.
    distances = distances_to(net, z)
    for start, end, length in untrue:
        if start not in distances or end not in distances:
            return ("astray", start, end, length)
        if distances[start] >= length:
            return ("late", start, end, length)
    return None
