"""Ring orders: their nexts and turns, how many there are, and their numbers."""

from ringlaps.errors import NoOrder
from ringlaps.walks import Walk


def from_least(order):
    """Return the same ring order as a list that begins with its least place."""
    at = order.index(min(order))
    return [*order[at:], *order[:at]]


def order_nexts(order):
    """Return the next of each place of the order."""
    followers = dict(zip(order, [*order[1:], order[0]]))
    return {place: followers[place] for place in sorted(order)}


def order_turns(size, order):
    """Return how often the way along the order back to its first place goes round."""
    return Walk(size, [*order, order[0]]).turns()


def descents(row):
    """Return how often an item of the row is greater than the following one."""
    return len([early for early, late in zip(row, row[1:]) if early > late])


def count_orders(count, turns):
    """Return how many ring orders of so many places have so many turns."""
    if turns < 1 or turns > count:
        return 0
    # The item of the row with index t is the count for t turns; it begins with one place.
    row = [0, 1]
    for many in range(2, count + 1):
        inner = [t * row[t] + (many - t) * row[t - 1] for t in range(1, many)]
        row = [0, *inner, 0]
    return row[turns]


def nth_order(places, turns, index):
    """Return the order with this number among those of the places with so many turns."""
    if index < 0 or index >= count_orders(len(places), turns):
        raise NoOrder(turns, index)
    rest = sorted(places)
    order = [rest.pop(0)]
    table = _ways_to_follow(len(rest))
    below = 0
    falls = turns - 1
    while rest:
        counts = _counts_by_choice(table[len(rest) - 1], below, falls)
        at = 0
        while index >= counts[at]:
            index = index - counts[at]
            at = at + 1
        order.append(rest.pop(at))
        falls = _falls_after(at, below, falls)
        below = at
    return order


def order_index(order):
    """Return the number of the order among those of its places with its turns."""
    row = from_least(order)
    rest = sorted(row[1:])
    table = _ways_to_follow(len(rest))
    below = 0
    falls = descents(row)
    number = 0
    for place in row[1:]:
        at = rest.index(place)
        counts = _counts_by_choice(table[len(rest) - 1], below, falls)
        number = number + sum(counts[:at])
        rest.pop(at)
        falls = _falls_after(at, below, falls)
        below = at
    return number


def _ways_to_follow(count):
    """Return, as table[rest][below][falls], how many rows the remaining places can form.

    So many places remain, so many of them are below the last place so far, and the
    places that follow that one make so many descents.
    """
    table = [[[1] + [0] * count]]
    for rest in range(1, count + 1):
        shorter = table[rest - 1]
        rows = [[sum(column) for column in zip(*shorter)]]
        for below in range(1, rest + 1):
            # One more place is below the last one, so the ways that take it cost a descent.
            ways = shorter[below - 1]
            moved = [0, *ways[:-1]]
            rows.append([a - b + c for a, b, c in zip(rows[below - 1], ways, moved)])
        table.append(rows)
    return table


def _counts_by_choice(shorter, below, falls):
    """Return, for each remaining place that may follow, the number of ways to go on then."""
    # Falls never become negative: with none left, no remaining place is below the last one.
    return [ways[_falls_after(at, below, falls)] for at, ways in enumerate(shorter)]


def _falls_after(at, below, falls):
    """Return how many descents are left when the place with this index follows."""
    return falls - 1 if at < below else falls
