"""A net of houses on a circle and the letters under way between them."""

from ringlaps.circle import check_on_circle
from ringlaps.errors import NoHouse, NoLetter, StillNamed, TakenPlace
from ringlaps.houses import House


class Net:
    """Houses, each with a next and perhaps a before, and letters, the oldest first."""

    def __init__(self, size, nexts, *, befores=None, letters=None):
        self.size = size
        self._nexts = dict(nexts)
        # Each house has an item here; it is None if the house has no before.
        self._befores = {house: None for house in self._nexts}
        self._letters = list(letters or [])
        self._check_places()
        self._take_befores(befores or {})
        self._check_letters()

    def houses(self):
        """Return the houses in ascending order."""
        return sorted(self._nexts)

    def nexts(self):
        """Return the next of each house."""
        return {house: self._nexts[house] for house in self.houses()}

    def befores(self):
        """Return the before of each house that has one."""
        befores = self._befores
        return {house: befores[house] for house in self.houses() if befores[house] is not None}

    def letters(self):
        """Return the letters under way, the oldest first."""
        return list(self._letters)

    def next_of(self, house):
        """Return the next of the house."""
        self.check_house(house)
        return self._nexts[house]

    def before_of(self, house):
        """Return the before of the house, or None if it has none."""
        self.check_house(house)
        return self._befores[house]

    def snapshot(self):
        """Return the size, the houses with their nexts and befores, and the letters."""
        rows = [(house, self._nexts[house], self._befores[house]) for house in self.houses()]
        return (self.size, tuple(rows), tuple(self._letters))

    def clone(self):
        """Return an independent net with the same snapshot."""
        return Net(self.size, self._nexts, befores=self.befores(), letters=self._letters)

    def tell(self, house):
        """Let the house write to its next that it is its next, and return the letter."""
        self.check_house(house)
        return self._send(self._house_at(house).tell_letter())

    def ask(self, house):
        """Let the house ask its next for its before, and return the letter."""
        self.check_house(house)
        return self._send(self._house_at(house).ask_letter())

    def read(self, at):
        """Let the reader of a letter under way read it, and return what comes of it."""
        self._check_letter(at)
        letter = self._letters.pop(at)
        reader = letter[1]
        house = self._house_at(reader)
        answer = house.hear(letter)
        if answer is not None:
            self._send(answer)
            return ("wrote", reader, house.before)
        # What a house takes lies between, so it always differs from what the house had.
        if house.before != self._befores[reader]:
            self._befores[reader] = house.before
            return ("before", reader, house.before)
        if house.next_house != self._nexts[reader]:
            self._nexts[reader] = house.next_house
            return ("next", reader, house.next_house)
        return ("kept", reader, None)

    def lose(self, at):
        """Remove a letter under way and return it."""
        self._check_letter(at)
        return self._letters.pop(at)

    def repeat(self, at):
        """Append a copy of a letter under way and return it."""
        self._check_letter(at)
        return self._send(self._letters[at])

    def admit(self, place, host):
        """Admit a new house at the place with the host, or itself, as its next."""
        self.check_free(place)
        if host != place:
            self.check_house(host)
        self._nexts[place] = host
        self._befores[place] = None

    def hold(self, house, target):
        """Make the target the next of the house and return the old next."""
        self.check_house(house)
        self.check_house(target)
        old = self._nexts[house]
        self._nexts[house] = target
        return old

    def set_before(self, house, before):
        """Set the before of the house; None takes it away."""
        self.check_house(house)
        if before is not None:
            self.check_house(before)
        self._befores[house] = before

    def take_out(self, house):
        """Remove a house that no other house and no letter names."""
        self.check_house(house)
        if self._is_named(house):
            raise StillNamed(house)
        del self._nexts[house]
        del self._befores[house]

    def check_house(self, place):
        """Raise NoHouse if there is no house at the place."""
        if place not in self._nexts:
            raise NoHouse(place)

    def check_free(self, place):
        """Raise OffCircle or TakenPlace if no new house can be admitted at the place."""
        check_on_circle(self.size, place)
        if place in self._nexts:
            raise TakenPlace(place)

    def _is_named(self, house):
        others = [other for other in self._nexts if other != house]
        if any([house in (self._nexts[other], self._befores[other]) for other in others]):
            return True
        return any([house in letter[1:] for letter in self._letters])

    def _house_at(self, place):
        return House(self.size, place, self._nexts[place], self._befores[place])

    def _send(self, letter):
        self._letters.append(letter)
        return letter

    def _check_letter(self, at):
        if at < 0 or at >= len(self._letters):
            raise NoLetter(at)

    def _check_places(self):
        for house in self.houses():
            check_on_circle(self.size, house)
        for house in self.houses():
            self.check_house(self._nexts[house])

    def _take_befores(self, befores):
        for house in sorted(befores):
            self.check_house(house)
            self.check_house(befores[house])
            self._befores[house] = befores[house]

    def _check_letters(self):
        for letter in self._letters:
            for place in letter[1:]:
                self.check_house(place)
