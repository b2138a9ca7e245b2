"""Desks, on which deeds are done, recorded, taken back and done again."""

from ringlaps.calm import calm_round
from ringlaps.cures import let_go
from ringlaps.deeds import journal_text
from ringlaps.errors import BadDeed, NothingToRedo, NothingToUndo
from ringlaps.mender import Mender


class Desk:
    """A net with its mender, the deeds that were done on them, and those that were taken back."""

    def __init__(self, net):
        self.net = net.clone()
        self.mender = Mender(self.net)
        self._start = net.clone()
        self._deeds = []
        # The mender, with its net, as it was ahead of each recorded deed.
        self._earlier = []
        self._undone = []

    def do(self, deed):
        """Perform and record the deed and return what its call returns."""
        result = self._do_and_keep(deed)
        self._undone = []
        return result

    def undo(self):
        """Take back the last recorded deed and return it."""
        if not self._deeds:
            raise NothingToUndo()
        self.mender = self._earlier.pop()
        self.net = self.mender.net
        deed = self._deeds.pop()
        self._undone.append(deed)
        return deed

    def redo(self):
        """Perform and record the deed that was taken back last, and return it."""
        if not self._undone:
            raise NothingToRedo()
        self._do_and_keep(self._undone[-1])
        return self._undone.pop()

    def do_all(self, deeds):
        """Do all deeds, or none of them if one raises an error, and return what they return."""
        # They are tried on a copy first, so that nothing has to be put back after an error.
        trial = self.mender.clone()
        for deed in deeds:
            _perform(trial, deed)
        return [self.do(deed) for deed in deeds]

    def journal(self):
        """Return the recorded deeds."""
        return list(self._deeds)

    def text(self):
        """Return the journal of the recorded deeds as text."""
        return journal_text(self._start, self._deeds)

    def state(self):
        """Return all that the net and the mender hold now."""
        memories = [(house, *self.mender.memory(house)) for house in self.net.houses()]
        laps = tuple(self.mender.laps())
        return (self.net.snapshot(), laps, tuple(memories), tuple(self.mender.healers()))

    def _do_and_keep(self, deed):
        earlier = self.mender.clone()
        result = _perform(self.mender, deed)
        self._earlier.append(earlier)
        self._deeds.append(deed)
        return result


def replay(net, deeds):
    """Return a new desk for the net on which the deeds have been done."""
    desk = Desk(net)
    for deed in deeds:
        desk.do(deed)
    return desk


def _perform(mender, deed):
    """Make the call that the deed names, on the mender or on its net, and return what it returns."""
    net = mender.net
    match deed:
        case ("tell", house):
            return net.tell(house)
        case ("ask", house):
            return net.ask(house)
        case ("read", at):
            return net.read(at)
        case ("lose", at):
            return net.lose(at)
        case ("repeat", at):
            return net.repeat(at)
        case ("admit", place, host):
            return net.admit(place, host)
        case ("release", house):
            return let_go(net, house)
        case ("calm",):
            return calm_round(net)
        case ("lap", house):
            return mender.write_lap(house)
        case ("carry", at):
            return mender.carry(at)
        case ("drop", at):
            return mender.drop_lap(at)
        case ("again", at):
            return mender.repeat_lap(at)
        case _:
            raise BadDeed(deed)
