"""Look-ups: which house answers for a key now, and which one will answer in the end."""

from ringlaps.circle import check_on_circle, far
from ringlaps.meaning import row_marks, told_pair
from ringlaps.pieces import house_at, piece_of, ring_of


def answer(net, house, key):
    """Return the house at which the way from the house has come to the key, and its length there."""
    _check_key(net, house, key)
    return house_at(net, house, far(net.size, house, key))


def ring_answers(net, house, key):
    """Return all answers that the houses on the ring of the piece of the house give."""
    _check_key(net, house, key)
    return sorted({answer(net, other, key)[0] for other in ring_of(net, house)})


def told_answer(net, house, key):
    """Return what the house will answer once the nexts of its piece are their end."""
    _check_key(net, house, key)
    turns, row = told_pair(net, piece_of(net, house))
    marks = row_marks(net.size, turns, row)
    start = marks[row.index(house)]
    # On a circle as long as the whole lap, the marks are places.
    ahead = [(far(turns * net.size, start, mark), other) for mark, other in zip(marks, row)]
    wanted = far(net.size, house, key)
    length, found = min([pair for pair in ahead if pair[0] >= wanted])
    return (found, length)


def _check_key(net, house, key):
    net.check_house(house)
    check_on_circle(net.size, key)
