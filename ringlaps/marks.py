"""Marks: where the houses of a piece stand on a circle as long as a lap of its ring."""

from ringlaps.pieces import piece_of, ring_of, turns_of, way_length


def marks_of(net, house):
    """Return the mark of each house of the piece of the house."""
    piece = piece_of(net, house)
    # Every way of the piece comes to this house, so it tells how far apart any two marks are.
    goal = ring_of(net, house)[0]
    least = piece[0]
    goal_mark = least + way_length(net, least, goal)
    lap = _lap_of(net, house)
    return {other: (goal_mark - way_length(net, other, goal)) % lap for other in piece}


def mark_row(net, house):
    """Return the houses of the piece as their marks follow each other, from the least house."""
    marks = marks_of(net, house)
    lap = _lap_of(net, house)
    least = min(marks)
    return sorted(marks, key=lambda other: (marks[other] - marks[least]) % lap)


def judge_marks(net, turns, marks):
    """Return whether these are the turns and, up to a shift by whole turns, the marks of a piece."""
    house = min(marks, default=None)
    if house not in net.houses() or turns != turns_of(net, house):
        return False
    right = marks_of(net, house)
    if sorted(marks) != list(right):
        return False
    lap = turns * net.size
    shift = marks[house] - right[house]
    if shift % net.size != 0:
        return False
    return all([marks[other] == (right[other] + shift) % lap for other in right])


def _lap_of(net, house):
    return turns_of(net, house) * net.size
