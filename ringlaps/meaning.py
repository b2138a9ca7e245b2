"""The meaning of a net: what each of its pieces comes to."""

from ringlaps.circle import check_on_circle, far
from ringlaps.clear import check_told
from ringlaps.errors import NoHouse, TakenPlace, Untold
from ringlaps.marks import mark_row
from ringlaps.orders import from_least
from ringlaps.pieces import pieces, turns_of
from ringlaps.sayings import piece_is_true


def meaning(net):
    """Return the turns and the row of houses to which each piece comes."""
    return [told_pair(net, piece) for piece in pieces(net)]


def meaning_or_none(net):
    """Return the meaning of the net, or None if it has none."""
    try:
        return meaning(net)
    except Untold:
        return None


def admitted(size, meaning, place, host):
    """Return the meaning after a new house with this host has been admitted at the place."""
    check_on_circle(size, place)
    if _index_of(meaning, place) is not None:
        raise TakenPlace(place)
    if host == place:
        return _in_order([*meaning, (1, (place,))])
    at = _known_index(meaning, host)
    turns, row = meaning[at]
    return _replaced(meaning, at, (turns, _row_with(size, turns, row, place, host)))


def released(size, meaning, house):
    """Return the meaning after the house has let go; it is the same on circles of all sizes."""
    at = _known_index(meaning, house)
    row = meaning[at][1]
    return _replaced(meaning, at, (1, tuple(sorted(row))))


def row_marks(size, turns, row):
    """Return the marks of the houses of a row."""
    # However many turns there are, a row has no gap of more than one turn.
    marks = [row[0]]
    for earlier, house in zip(row, row[1:]):
        marks.append(marks[-1] + far(size, earlier, house))
    return marks


def told_pair(net, piece):
    """Return the turns and the row of houses to which one piece comes."""
    least = piece[0]
    if piece_is_true(net, least):
        return (turns_of(net, least), tuple(mark_row(net, least)))
    check_told(net, piece)
    return (1, tuple(piece))


def _index_of(meaning, house):
    """Return the index of the pair in whose row the house stands, or None."""
    for at, (_, row) in enumerate(meaning):
        if house in row:
            return at
    return None


def _known_index(meaning, house):
    at = _index_of(meaning, house)
    if at is None:
        raise NoHouse(house)
    return at


def _replaced(meaning, at, pair):
    return _in_order([*meaning[:at], pair, *meaning[at + 1 :]])


def _in_order(pairs):
    return sorted(pairs, key=lambda pair: pair[1][0])


def _row_with(size, turns, row, place, host):
    """Return the row with the place at its mark."""
    marks = row_marks(size, turns, row)
    mark = (marks[row.index(host)] - far(size, place, host)) % (turns * size)
    at = len([other for other in marks if other < mark])
    return tuple(from_least([*row[:at], place, *row[at:]]))
