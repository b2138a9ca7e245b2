"""A second, plainer writing of points 15 to 20, with which the program is compared."""


class ModelNet:
    """A net as three plain tables; places are compared by going up step by step."""

    def __init__(self, size, nexts):
        self.size = size
        self.nexts = dict(nexts)
        self.befores = {}
        self.letters = []

    def between(self, start, place, end):
        if place in (start, end):
            return False
        at = (start + 1) % self.size
        while at not in (place, end):
            at = (at + 1) % self.size
        return at == place

    def write(self, letter):
        self.letters.append(letter)
        return letter

    def tell(self, house):
        return self.write(("tell", self.nexts[house], house))

    def ask(self, house):
        return self.write(("ask", self.nexts[house], house))

    def lose(self, at):
        return self.letters.pop(at)

    def repeat(self, at):
        return self.write(self.letters[at])

    def admit(self, place, host):
        self.nexts[place] = host

    def read(self, at):
        word, reader, sender, *named = self.letters.pop(at)
        before = self.befores.get(reader)
        if word == "tell":
            if before is None or self.between(before, sender, reader):
                self.befores[reader] = sender
                return ("before", reader, sender)
        elif word == "ask":
            if before is not None:
                self.write(("answer", sender, reader, before))
                return ("wrote", reader, before)
        elif self.nexts[reader] == sender and self.between(reader, named[0], sender):
            self.nexts[reader] = named[0]
            return ("next", reader, named[0])
        return ("kept", reader, None)

    def snapshot(self):
        rows = [(house, self.nexts[house], self.befores.get(house)) for house in sorted(self.nexts)]
        return (self.size, tuple(rows), tuple(self.letters))


def random_deed(chance, model, most_letters=12):
    """Return the name and the arguments of a call that the model allows now."""
    houses = sorted(model.nexts)
    free = [place for place in range(model.size) if place not in model.nexts]
    words = ["tell", "ask"]
    if model.letters:
        words += ["read", "read", "read", "lose", "repeat"]
    if free and len(houses) < 6:
        words.append("admit")
    if len(model.letters) > most_letters:
        words = ["read", "lose"]
    word = chance.choice(words)
    if word in ("tell", "ask"):
        return word, [chance.choice(houses)]
    if word == "admit":
        place = chance.choice(free)
        return word, [place, chance.choice([*houses, place])]
    return word, [chance.randrange(len(model.letters))]


def random_nexts(chance, size, most=5):
    """Return nexts of some houses on the circle, each to any of them."""
    houses = chance.sample(range(size), chance.randrange(1, min(size, most) + 1))
    return {house: chance.choice(houses) for house in houses}
