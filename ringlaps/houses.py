"""One house by itself, which knows nothing of the net but its next and its before."""

from ringlaps.circle import between


class House:
    """A house at a place of a circle with its next and its before, which may be None."""

    def __init__(self, size, place, next_house, before=None):
        self.size = size
        self.place = place
        self.next_house = next_house
        self.before = before

    def tell_letter(self):
        """Return the letter that tells the next whose next it is."""
        return ("tell", self.next_house, self.place)

    def ask_letter(self):
        """Return the letter that asks the next for its before."""
        return ("ask", self.next_house, self.place)

    def hear(self, letter):
        """Read a letter to the house and return the answer to it, or None if there is none."""
        word = letter[0]
        sender = letter[2]
        if word == "ask":
            return self._answer_to(sender)
        if word == "tell":
            self._hear_tell(sender)
        else:
            self._hear_answer(sender, letter[3])
        return None

    def _answer_to(self, sender):
        if self.before is None:
            return None
        return ("answer", sender, self.place, self.before)

    def _hear_tell(self, sender):
        if self.before is None or between(self.size, self.before, sender, self.place):
            self.before = sender

    def _hear_answer(self, sender, named):
        # An answer that comes late, after the next has changed, says nothing of the new next.
        if self.next_house == sender and between(self.size, self.place, named, sender):
            self.next_house = named
