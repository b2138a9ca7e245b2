"""Logs of changes of nexts, and which of the changes are faithful."""

from ringlaps.circle import between, far
from ringlaps.sayings import holds_true


def is_faithful(net, house, target):
    """Return whether the next of the house can change to the target with all truths kept."""
    following = net.next_of(house)
    net.check_house(target)
    if not between(net.size, house, target, following):
        return False
    return holds_true(net, (target, following, far(net.size, target, following)))


def apply_changes(net, changes):
    """Make each target the next of its house, and return the old nexts."""
    _check_changes(net, changes)
    old_nexts = []
    for house, target in changes:
        old_nexts.append(net.hold(house, target))
    return old_nexts


def first_unfaithful(net, changes):
    """Return the index of the first change that is not faithful at its time, or None."""
    _check_changes(net, changes)
    copied = net.clone()
    for at, (house, target) in enumerate(changes):
        if not is_faithful(copied, house, target):
            return at
        copied.hold(house, target)
    return None


def _check_changes(net, changes):
    for house, target in changes:
        net.check_house(house)
        net.check_house(target)
