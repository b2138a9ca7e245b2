"""Audits: what a net comes to after each of some deeds, and which deeds change it unduly."""

from ringlaps.clear import check_all_told
from ringlaps.desk import Desk
from ringlaps.meaning import admitted, meaning_or_none, released


def audit(net, deeds):
    """Return the meaning of the net at the beginning and after each deed, or None instead of it."""
    desk = Desk(net)
    meanings = [meaning_or_none(desk.net)]
    for deed in deeds:
        desk.do(deed)
        meanings.append(meaning_or_none(desk.net))
    return meanings


def next_meaning(size, meaning, deed, result):
    """Return what the meaning is after a deed with this result, if all goes as it should."""
    word = deed[0]
    if word == "admit":
        return admitted(size, meaning, deed[1], deed[2])
    if word == "release":
        return released(size, meaning, deed[1])
    if word == "carry" and result[0] == "let go":
        return released(size, meaning, result[1])
    return list(meaning)


def first_surprise(net, deeds):
    """Return the index of the first deed after which the meaning is not the due one, or None."""
    check_all_told(net)
    desk = Desk(net)
    told = meaning_or_none(desk.net)
    for at, deed in enumerate(deeds):
        result = desk.do(deed)
        due = next_meaning(net.size, told, deed, result)
        told = meaning_or_none(desk.net)
        if told != due:
            return at
    return None


def next_changes(net, deeds):
    """Return all changes of nexts as tuples (index of the deed, house, old next, new next)."""
    desk = Desk(net)
    changes = []
    for at, deed in enumerate(deeds):
        earlier = desk.net.nexts()
        desk.do(deed)
        # A calm round changes each next at most once, in ascending order of the houses.
        for house, following in desk.net.nexts().items():
            if earlier.get(house) != following:
                changes.append((at, house, earlier.get(house), following))
    return changes
