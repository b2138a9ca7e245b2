"""Single changes of nexts that heal pieces and join them."""

from ringlaps.calm import settle
from ringlaps.circle import between, far
from ringlaps.clear import check_all_told
from ringlaps.errors import NotBetween, SamePiece
from ringlaps.pieces import arrows_over, on_ring, piece_of, pieces, ring_of, turns_of, way_length


def let_go(net, house):
    """Make the house its own next and return its old next."""
    return net.hold(house, house)


def take_newcomer(net, house, place):
    """Admit a new house, its own next, as the next of the house; return the old next."""
    net.check_house(house)
    net.check_free(place)
    _check_between(net, house, place)
    net.admit(place, place)
    return net.hold(house, place)


def meet(net, house, other):
    """Make a house of another piece the next of the house and return the old next."""
    net.check_house(house)
    net.check_house(other)
    if other in piece_of(net, house):
        raise SamePiece(other)
    _check_between(net, house, other)
    return net.hold(house, other)


def heal(net):
    """Let the least house of the ring go in each true piece of several turns; return them."""
    check_all_told(net)
    # Only a piece of one turn can be clear, so each of several turns is a true one here.
    lapped = [piece[0] for piece in pieces(net) if turns_of(net, piece[0]) > 1]
    released = [ring_of(net, house)[0] for house in lapped]
    for house in released:
        let_go(net, house)
    return released


def healing_targets(net, house):
    """Return the houses that give the piece one turn when the house takes them as its next."""
    if not on_ring(net, house):
        return []
    # The house itself is a whole turn away and has no way back to go, so it is one of them.
    return [target for target in piece_of(net, house) if _round_trip(net, house, target) == net.size]


def unite(net):
    """Make one plain ring of all houses and return the changes of nexts made to this end."""
    released = heal(net)
    changes = [(house, house) for house in released]
    settle(net)
    found = pieces(net)
    while len(found) > 1:
        other = found[1][0]
        # The first piece is a ring of one turn now, so exactly one arrow goes over the place.
        house = arrows_over(net, found[0][0], other)[0]
        meet(net, house, other)
        changes.append((house, other))
        settle(net)
        found = pieces(net)
    return changes


def _check_between(net, house, place):
    if not between(net.size, house, place, net.next_of(house)):
        raise NotBetween(place)


def _round_trip(net, house, target):
    """Return the length of a step from the house to the target and of the way back."""
    return far(net.size, house, target) + way_length(net, target, house)
