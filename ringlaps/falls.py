"""Falls of several houses at once, and what the remaining ones still know."""

from ringlaps.errors import NotAtRest
from ringlaps.net import Net


def fall(net, fallen, *, ahead=2):
    """Return the net of the remaining houses, each of which knew so many houses ahead of it."""
    _check_fall(net, fallen)
    nexts = {}
    for house in _remaining(net, fallen):
        length, end = _gap_after(net, fallen, house)
        nexts[house] = end if length < ahead else house
    return Net(net.size, nexts)


def gaps(net, fallen, *, ahead=2):
    """Return how many rows of so many or more neighbouring houses have fallen."""
    _check_fall(net, fallen)
    lengths = [_gap_after(net, fallen, house)[0] for house in _remaining(net, fallen)]
    return len([length for length in lengths if length >= ahead])


def _check_fall(net, fallen):
    for house in fallen:
        net.check_house(house)
    held = list(net.nexts().values())
    for house in net.houses():
        if held.count(house) != 1:
            raise NotAtRest(house)


def _remaining(net, fallen):
    return [house for house in net.houses() if house not in fallen]


def _gap_after(net, fallen, house):
    """Return how many fallen houses follow the house at once, and the first one that remains."""
    # The house is on a ring and remains itself, so it is come to at the latest.
    length = 0
    end = net.next_of(house)
    while end in fallen:
        length = length + 1
        end = net.next_of(end)
    return (length, end)
