"""A second, plainer writing of points 27 to 53, with which the program is compared."""


class Model:
    """What a net looks like now; ways are walked step by step, places are counted one by one."""

    def __init__(self, net):
        self.size, rows, self.letters = net.snapshot()
        self.nexts = {house: following for house, following, _ in rows}
        self.befores = {house: before for house, _, before in rows if before is not None}

    def far(self, start, end):
        at = (start + 1) % self.size
        steps = 1
        while at != end:
            at = (at + 1) % self.size
            steps += 1
        return steps

    def reach(self, house):
        return self.far(house, self.nexts[house])

    def is_between(self, start, place, end):
        return place not in (start, end) and self.far(start, place) < self.far(start, end)

    def stops(self, start, steps):
        """Return the houses of the way with their lengths after 0, 1 .. steps."""
        found = [(start, 0)]
        for _ in range(steps):
            house, length = found[-1]
            found.append((self.nexts[house], length + self.reach(house)))
        return found

    def way(self, start, end):
        houses = [house for house, _ in self.stops(start, len(self.nexts))]
        return houses[: houses.index(end) + 1] if end in houses else None

    def way_length(self, start, end):
        found = [length for house, length in self.stops(start, len(self.nexts)) if house == end]
        return found[0] if found else None

    def house_at(self, start, distance):
        house, length = start, 0
        while length < distance:
            house, length = self.nexts[house], length + self.reach(house)
        return house, length

    def ring(self, house):
        for _ in self.nexts:
            house = self.nexts[house]
        round_trip = [house]
        while self.nexts[round_trip[-1]] != house:
            round_trip.append(self.nexts[round_trip[-1]])
        at = round_trip.index(min(round_trip))
        return round_trip[at:] + round_trip[:at]

    def turns(self, house):
        """Count the steps of the ring that lead past the highest place."""
        return sum(self.nexts[other] <= other for other in self.ring(house))

    def piece(self, house):
        """Collect what hangs together by nexts, whichever way they lead."""
        found = {house}
        for _ in self.nexts:
            found |= {self.nexts[other] for other in found}
            found |= {other for other in self.nexts if self.nexts[other] in found}
        return sorted(found)

    def pieces(self):
        return sorted({tuple(self.piece(house)) for house in self.nexts})

    def sayings(self):
        pairs = [(house, self.nexts[house]) for house in sorted(self.nexts)]
        pairs += [(self.befores[house], house) for house in sorted(self.befores)]
        for letter in self.letters:
            if letter[0] == "tell":
                pairs.append((letter[2], letter[1]))
            if letter[0] == "answer":
                pairs.append((letter[3], letter[2]))
        return [(start, end, self.far(start, end)) for start, end in pairs]

    def is_true(self, saying):
        start, end, length = saying
        return self.house_at(start, length) == (end, length)

    def untrue(self):
        return [saying for saying in self.sayings() if not self.is_true(saying)]

    def marks(self, house):
        """Give the least house its place and go on from marked houses, ahead and back."""
        piece = self.piece(house)
        lap = self.turns(house) * self.size
        marks = {piece[0]: piece[0]}
        for _ in piece:
            for other in piece:
                following = self.nexts[other]
                if other in marks:
                    marks[following] = (marks[other] + self.reach(other)) % lap
                elif following in marks:
                    marks[other] = (marks[following] - self.reach(other)) % lap
        return {other: marks[other] for other in piece}

    def row(self, house):
        """No mark is less than the place of the least house, so the row goes up by marks."""
        marks = self.marks(house)
        return sorted(marks, key=marks.get)

    def clear_fault(self, z):
        piece = self.piece(z)
        if z not in self.ring(z):
            return ("off ring", z)
        if self.turns(z) != 1:
            return ("turns", self.turns(z))
        for start, end, length in self.sayings():
            if start in piece and end in piece:
                late = self.way_length(start, z) >= length
                if late and not self.is_true((start, end, length)):
                    return ("late", start, end, length)
            elif start in piece or end in piece:
                return ("astray", start, end, length)
        return None

    def clear_towards(self, house):
        return [z for z in self.piece(house) if self.clear_fault(z) is None]

    def meaning(self):
        """Return the meaning, with None for a piece of which nothing is told."""
        told = []
        for piece in self.pieces():
            own = [s for s in self.untrue() if s[0] in piece or s[1] in piece]
            if not own:
                told.append((self.turns(piece[0]), tuple(self.row(piece[0]))))
            elif self.clear_towards(piece[0]):
                told.append((1, piece))
            else:
                told.append(None)
        return told
