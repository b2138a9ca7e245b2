"""Calm rounds, in which every letter is read as soon as it is written."""


def calm_round(net):
    """Let each house tell its next, then each ask its next, and count the changed nexts."""
    houses = net.houses()
    # Each letter of the round is read at once, so it always is the one behind those under way.
    at = len(net.letters())
    for house in houses:
        net.tell(house)
        net.read(at)
    changed = 0
    for house in houses:
        net.ask(house)
        # The house has told its next, which therefore has a before and surely answers.
        net.read(at)
        if net.read(at)[0] == "next":
            changed = changed + 1
    return changed


def each_held_once(net):
    """Return whether every house is the next of exactly one house."""
    return sorted(net.nexts().values()) == net.houses()


def settle(net):
    """Do calm rounds until one changes no next, and count those that changed one."""
    rounds = 0
    while calm_round(net) > 0:
        rounds = rounds + 1
    return rounds
