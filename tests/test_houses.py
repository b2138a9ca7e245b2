"""Point 23: one house by itself."""

import random
import unittest

from ring_model import ModelNet, random_deed, random_nexts
from ringlaps.houses import House
from ringlaps.net import Net


def values(house):
    return (house.size, house.place, house.next_house, house.before)


class HouseTest(unittest.TestCase):
    def check_hear(self, house, letter, answer, *, next_house, before):
        size, place = house.size, house.place
        self.assertEqual(house.hear(letter), answer)
        self.assertEqual(values(house), (size, place, next_house, before))

    def test_attributes(self):
        self.assertEqual(values(House(10, 4, 7)), (10, 4, 7, None))
        self.assertEqual(values(House(10, 4, 7, 1)), (10, 4, 7, 1))
        self.assertEqual(values(House(10, 4, 7, before=0)), (10, 4, 7, 0))

    def test_letters(self):
        house = House(10, 4, 7, 1)
        self.assertEqual(house.tell_letter(), ("tell", 7, 4))
        self.assertEqual(house.ask_letter(), ("ask", 7, 4))
        self.assertEqual(values(house), (10, 4, 7, 1))
        self.assertEqual(House(10, 4, 4).tell_letter(), ("tell", 4, 4))

    def test_hear_tell(self):
        self.check_hear(House(10, 7, 1), ("tell", 7, 4), None, next_house=1, before=4)
        self.check_hear(House(10, 7, 1, 1), ("tell", 7, 4), None, next_house=1, before=4)
        self.check_hear(House(10, 7, 1, 0), ("tell", 7, 4), None, next_house=1, before=4)
        self.check_hear(House(10, 7, 1, 0), ("tell", 7, 8), None, next_house=1, before=0)
        self.check_hear(House(10, 7, 1, 4), ("tell", 7, 1), None, next_house=1, before=4)
        self.check_hear(House(10, 7, 1, 4), ("tell", 7, 4), None, next_house=1, before=4)
        self.check_hear(House(10, 7, 7, 7), ("tell", 7, 8), None, next_house=7, before=8)
        self.check_hear(House(10, 7, 7, 7), ("tell", 7, 7), None, next_house=7, before=7)
        self.check_hear(House(10, 7, 7), ("tell", 7, 7), None, next_house=7, before=7)

    def test_hear_ask(self):
        house = House(10, 7, 1, 4)
        self.check_hear(house, ("ask", 7, 1), ("answer", 1, 7, 4), next_house=1, before=4)
        house = House(10, 7, 1, 0)
        self.check_hear(house, ("ask", 7, 4), ("answer", 4, 7, 0), next_house=1, before=0)
        self.check_hear(House(10, 7, 1), ("ask", 7, 4), None, next_house=1, before=None)
        house = House(10, 7, 7, 7)
        self.check_hear(house, ("ask", 7, 7), ("answer", 7, 7, 7), next_house=7, before=7)

    def test_hear_answer(self):
        self.check_hear(House(10, 1, 7), ("answer", 1, 7, 4), None, next_house=4, before=None)
        self.check_hear(House(10, 1, 7, 9), ("answer", 1, 7, 4), None, next_house=4, before=9)
        self.check_hear(House(10, 1, 7), ("answer", 1, 7, 8), None, next_house=7, before=None)
        self.check_hear(House(10, 1, 7), ("answer", 1, 7, 1), None, next_house=7, before=None)
        self.check_hear(House(10, 1, 7), ("answer", 1, 7, 7), None, next_house=7, before=None)
        self.check_hear(House(10, 1, 5), ("answer", 1, 7, 4), None, next_house=5, before=None)
        self.check_hear(House(10, 1, 1), ("answer", 1, 1, 0), None, next_house=0, before=None)
        self.check_hear(House(10, 9, 2), ("answer", 9, 2, 0), None, next_house=0, before=None)


class Village:
    """Single houses and a list of letters: a net in which no house sees another one."""

    def __init__(self, net):
        self.houses = {
            place: House(net.size, place, net.next_of(place), net.before_of(place))
            for place in net.houses()
        }
        self.size = net.size
        self.letters = net.letters()

    def tell(self, house):
        self.letters.append(self.houses[house].tell_letter())

    def ask(self, house):
        self.letters.append(self.houses[house].ask_letter())

    def lose(self, at):
        self.letters.pop(at)

    def repeat(self, at):
        self.letters.append(self.letters[at])

    def admit(self, place, host):
        self.houses[place] = House(self.size, place, host)

    def read(self, at):
        letter = self.letters.pop(at)
        answer = self.houses[letter[1]].hear(letter)
        if answer is not None:
            self.letters.append(answer)

    def snapshot(self):
        rows = [(k, self.houses[k].next_house, self.houses[k].before) for k in sorted(self.houses)]
        return (self.size, tuple(rows), tuple(self.letters))


class VillageTest(unittest.TestCase):
    def test_net_read_by_single_houses(self):
        chance = random.Random(23)
        for _ in range(80):
            size = chance.choice([1, 3, 5, 9])
            nexts = random_nexts(chance, size)
            net = Net(size, nexts)
            model = ModelNet(size, nexts)
            village = Village(net)
            for _ in range(50):
                word, args = random_deed(chance, model)
                for told in (model, net, village):
                    getattr(told, word)(*args)
                self.assertEqual(village.snapshot(), net.snapshot())

    def test_letters_with_different_readers_in_both_orders(self):
        chance = random.Random(24)
        pairs = 0
        for _ in range(60):
            size = chance.choice([3, 5, 9])
            model = ModelNet(size, random_nexts(chance, size))
            net = Net(size, model.nexts)
            for _ in range(30):
                word, args = random_deed(chance, model)
                getattr(model, word)(*args)
                getattr(net, word)(*args)
                pairs += self.check_both_orders(net)
        self.assertGreater(pairs, 1000)

    def check_both_orders(self, net):
        letters = net.letters()
        pairs = [
            (early, late)
            for late in range(len(letters))
            for early in range(late)
            if letters[early][1] != letters[late][1]
        ]
        for early, late in pairs:
            first = net.clone()
            second = net.clone()
            found = [first.read(early), first.read(late - 1)]
            turned = [second.read(late), second.read(early)]
            self.assertEqual(found, turned[::-1])
            self.assertEqual(first.snapshot()[:2], second.snapshot()[:2])
            self.assertEqual(sorted(first.letters()), sorted(second.letters()))
        return len(pairs)


if __name__ == "__main__":
    unittest.main()
