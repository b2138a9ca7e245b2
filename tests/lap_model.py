"""A second, plainer writing of points 40, 42 and 67 to 75, with which the program is compared."""

from ring_model import ModelNet
from ringlaps.errors import NoHouse, NoLetter


class LapModel(ModelNet):
    """A net with round letters and memories as plain tables, in which nothing is checked twice."""

    def __init__(self, size, nexts):
        super().__init__(size, nexts)
        self.laps = []
        self.stage = {}
        self.lap = {}
        self.seen = {}
        self.swallowing = []
        self.healers = []

    def memory(self, house):
        if house not in self.nexts:
            raise NoHouse(house)
        lap = self.lap.get(house, 0)
        return (self.stage.get(house, 0), lap, self.seen.get(house), house in self.swallowing)

    def reach(self, house):
        length = self.nexts[house] - house
        return length if length > 0 else length + self.size

    def first_lap(self, house):
        return (self.nexts[house], house, self.memory(house)[0], self.reach(house), None)

    def write_lap(self, house):
        if self.memory(house)[0] == 3:
            return None
        self.laps.append(self.first_lap(house))
        return self.laps[-1]

    def check_index(self, at):
        if not 0 <= at < len(self.laps):
            raise NoLetter(at)

    def drop_lap(self, at):
        self.check_index(at)
        return self.laps.pop(at)

    def repeat_lap(self, at):
        self.check_index(at)
        self.laps.append(self.laps[at])
        return self.laps[-1]

    def carry(self, at):
        self.check_index(at)
        if self.laps[at][0] not in self.nexts:
            raise NoHouse(self.laps[at][0])
        return self.hear(self.laps.pop(at), self.laps)

    def hear(self, letter, row):
        """Read a letter, append what is handed on to the row, and return what comes of it."""
        y, h, number, total, least = letter
        if y == h:
            return self.hear_own(letter)
        if y in self.swallowing:
            return ("swallowed", y, h)
        self.seen[y] = h if self.seen.get(y) is None else min(self.seen[y], h)
        least = y if least is None else min(least, y)
        row.append((self.nexts[y], h, number, total + self.reach(y), least))
        return ("handed", y, self.nexts[y])

    def hear_own(self, letter):
        h, _, number, total, least = letter
        stage, lap, seen, _ = self.memory(h)
        if number != stage:
            return ("stale", h, stage)
        self.stage[h] = stage + 1
        if number == 1:
            self.lap[h] = total
        if number == 2 and total == lap and total // self.size > 1:
            if all(other is None or other > h for other in (least, seen)):
                self.nexts[h] = h
                self.swallowing.append(h)
                self.healers.append(h)
                return ("let go", h, 3)
        return ("home", h, stage + 1)

    def calm_lap(self):
        grown = []
        for house in sorted(self.nexts):
            stage = self.memory(house)[0]
            row = [self.first_lap(house)] if stage < 3 else []
            for _ in self.nexts:
                if row:
                    self.hear(row.pop(), row)
            if self.memory(house)[0] > stage:
                grown.append(house)
        return grown

    def calm_round(self):
        """Do what a calm round does, with each letter read as the last one under way."""
        earlier = dict(self.nexts)
        for house in sorted(self.nexts):
            self.tell(house)
            self.read(-1)
        for house in sorted(self.nexts):
            self.ask(house)
            self.read(-1)
            self.read(-1)
        return sum(earlier[house] != self.nexts[house] for house in earlier)

    def settle(self):
        while self.calm_round():
            pass

    def mend(self):
        known = len(self.healers)
        self.settle()
        while self.calm_lap():
            self.settle()
        return self.healers[known:]

    def hold(self, house, target):
        self.nexts[house] = target

    def take_out(self, house):
        del self.nexts[house]
        self.befores.pop(house, None)

    def may_go(self, house):
        """Return whether no other house and no letter of point 15 names the house."""
        named = [other for u in self.nexts if u != house for other in (self.nexts[u], self.befores.get(u))]
        named += [place for letter in self.letters for place in letter[1:]]
        return house not in named
