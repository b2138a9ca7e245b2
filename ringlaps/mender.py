"""Round letters by which a net finds its rings of several turns and repairs them itself."""

from ringlaps.calm import settle
from ringlaps.cures import let_go
from ringlaps.errors import NoLetter
from ringlaps.laps import handed_lap, lesser, written_lap

# The stage of a house of which nothing more is to be found out.
LAST_STAGE = 3

# The stage, the lap, the least writer seen, and whether the house swallows.
FIRST_MEMORY = (0, 0, None, False)


class Mender:
    """The round letters under way in a net, the oldest first, and what its houses remember."""

    def __init__(self, net):
        self.net = net
        self._laps = []
        # Places that are not listed here have the first memory.
        self._memories = {}
        self._healers = []

    def clone(self):
        """Return an independent mender that works on a clone of the net."""
        twin = Mender(self.net.clone())
        twin._laps = list(self._laps)
        twin._memories = dict(self._memories)
        twin._healers = list(self._healers)
        return twin

    def laps(self):
        """Return the round letters under way, the oldest first."""
        return list(self._laps)

    def memory(self, house):
        """Return the stage, the lap, the least writer seen, and whether the house swallows."""
        self.net.check_house(house)
        return self._memories.get(house, FIRST_MEMORY)

    def healers(self):
        """Return the houses that have let go because of a round letter, in this order."""
        return list(self._healers)

    def write_lap(self, house):
        """Let the house send a round letter and return it, or None if its stage is the last one."""
        stage = self.memory(house)[0]
        if stage == LAST_STAGE:
            return None
        return self._send(written_lap(self.net, house, stage))

    def carry(self, at):
        """Let its reader read a round letter under way, and return what comes of it."""
        self._check_lap(at)
        letter = self._laps[at]
        self.net.check_house(letter[0])
        self._laps.pop(at)
        told, handed = self._read(letter)
        if handed is not None:
            self._send(handed)
        return told

    def drop_lap(self, at):
        """Remove a round letter under way and return it."""
        self._check_lap(at)
        return self._laps.pop(at)

    def repeat_lap(self, at):
        """Append a copy of a round letter under way and return it."""
        self._check_lap(at)
        return self._send(self._laps[at])

    def calm_lap(self):
        """Let each house send a letter round at once, and return those whose stage has grown."""
        grown = []
        for house in self.net.houses():
            if self._grows_at_once(house):
                grown.append(house)
        return grown

    def mend(self):
        """Settle the net and do a calm lap until no stage grows, and return who has let go."""
        known = len(self._healers)
        settle(self.net)
        while self.calm_lap():
            settle(self.net)
        return self._healers[known:]

    def _grows_at_once(self, house):
        """Send a letter of the house round at once and return whether its stage has grown."""
        stage = self.memory(house)[0]
        if stage == LAST_STAGE:
            return False
        letter = written_lap(self.net, house, stage)
        for _ in range(len(self.net.houses())):
            handed = self._read(letter)[1]
            if handed is None:
                break
            letter = handed
        return self.memory(house)[0] > stage

    def _read(self, letter):
        """Let its reader read a letter; return what comes of it and the letter handed on, or None."""
        reader, writer = letter[:2]
        if reader == writer:
            return (self._come_home(letter), None)
        stage, lap, seen, swallows = self.memory(reader)
        if swallows:
            return (("swallowed", reader, writer), None)
        self._memories[reader] = (stage, lap, lesser(seen, writer), False)
        handed = handed_lap(self.net, letter)
        return (("handed", reader, handed[0]), handed)

    def _come_home(self, letter):
        """Let the writer of a letter read it, and return what comes of it."""
        _, house, number, total, _ = letter
        stage, lap, seen, swallows = self.memory(house)
        if number != stage:
            return ("stale", house, stage)
        if self._shows_need(letter):
            self._memories[house] = (LAST_STAGE, lap, seen, True)
            let_go(self.net, house)
            self._healers.append(house)
            return ("let go", house, LAST_STAGE)
        if number == 1:
            lap = total
        self._memories[house] = (stage + 1, lap, seen, swallows)
        return ("home", house, stage + 1)

    def _shows_need(self, letter):
        """Return whether a letter that is home and not stale shows that its writer has to let go."""
        _, house, number, total, least = letter
        _, lap, seen, _ = self.memory(house)
        # Only the least house of a ring lets go, for two that do can part the piece.
        is_least = _is_above(least, house) and _is_above(seen, house)
        return number == 2 and total == lap and total >= 2 * self.net.size and is_least

    def _send(self, letter):
        self._laps.append(letter)
        return letter

    def _check_lap(self, at):
        if at < 0 or at >= len(self._laps):
            raise NoLetter(at)


def _is_above(known, house):
    """Return whether a known house, if there is one, is greater than the house."""
    return known is None or known > house
