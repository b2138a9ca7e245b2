"""What a net with only true sayings comes to, told in advance."""

from ringlaps.circle import far, nearest_ahead
from ringlaps.errors import UntrueNet
from ringlaps.marks import mark_row, marks_of
from ringlaps.orders import order_nexts
from ringlaps.pieces import on_ring, pieces, turns_of
from ringlaps.sayings import first_untrue


def told_end(net):
    """Return the next that each house has in the end."""
    _check_true(net)
    ends = {}
    for piece in pieces(net):
        ends.update(order_nexts(mark_row(net, piece[0])))
    return _ascending(ends)


def rooms(net):
    """Return for each house how many houses of its piece its next can still change to."""
    _check_true(net)
    counts = {}
    for piece in pieces(net):
        counts.update(_rooms_in_piece(net, piece[0]))
    return _ascending(counts)


def change_bounds(net):
    """Return the least and the greatest number of changes of nexts up to the end."""
    counts = list(rooms(net).values())
    return (len([count for count in counts if count > 0]), sum(counts))


def far_sum(net):
    """Return the sum of the distances from the houses to their nexts."""
    return sum([_reach(net, house) for house in net.houses()])


def loss(net):
    """Return how much smaller the far sum is in the end."""
    _check_true(net)
    return sum([_reach(net, house) for house in net.houses() if not on_ring(net, house)])


def is_plain(net):
    """Return whether the next of each house is the house that follows it on the circle."""
    return net.nexts() == _plain_nexts(net)


def ends_plain(net):
    """Return whether all sayings are true and the told end of each house follows it."""
    return first_untrue(net) is None and told_end(net) == _plain_nexts(net)


def _check_true(net):
    saying = first_untrue(net)
    if saying is not None:
        raise UntrueNet(saying)


def _rooms_in_piece(net, house):
    marks = marks_of(net, house)
    lap = turns_of(net, house) * net.size
    counts = {}
    for other, mark in marks.items():
        ahead = [(further - mark) % lap for further in marks.values()]
        counts[other] = len([length for length in ahead if 0 < length < _reach(net, other)])
    return counts


def _reach(net, house):
    return far(net.size, house, net.next_of(house))


def _plain_nexts(net):
    houses = net.houses()
    return {house: nearest_ahead(net.size, house, houses) for house in houses}


def _ascending(table):
    return {house: table[house] for house in sorted(table)}
