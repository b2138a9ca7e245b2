"""What the tests of functions of nets have in common: their checks, and random nets."""

import copy
import itertools
import unittest

from ring_model import random_nexts
from ringlaps.net import Net

CALLS = ("tell", "ask", "read", "read", "read", "lose", "repeat")
CALLS_WITH_ADMIT = (*CALLS, "admit")


class NetCase(unittest.TestCase):
    def check_tells(self, function, net, *args, result):
        """Check what a function returns, that it is new each time, and that nothing changes."""
        earlier = net.snapshot()
        passed = copy.deepcopy(args)
        with self.subTest(function=function.__name__, net=earlier, args=args):
            found = function(net, *args)
            self.check_same(found, result)
            spoil(found)
            self.check_same(function(net, *args), result)
            self.assertEqual(net.snapshot(), earlier)
            self.assertEqual(args, passed)

    def check_same(self, found, expected):
        """Check that two values are equal and of one kind, and that dicts have ascending keys."""
        self.assertEqual(found, expected)
        self.assertIs(type(found), type(expected))
        if isinstance(found, dict):
            self.assertEqual(list(found), sorted(found))

    def check_fails(self, function, net, *args, error):
        """Check that a call raises an error of this kind and values, and changes nothing."""
        earlier = net.snapshot()
        passed = copy.deepcopy(args)
        with self.subTest(function=function.__name__, net=earlier, args=args):
            with self.assertRaises(type(error)) as caught:
                function(net, *args)
            self.assertEqual(vars(caught.exception), vars(error))
            self.assertEqual(net.snapshot(), earlier)
            self.assertEqual(args, passed)


def spoil(value):
    """Change a list or dict, and the lists in it, as far as they can be changed."""
    if isinstance(value, list):
        for item in value:
            spoil(item)
    if isinstance(value, (list, dict)):
        value.clear()


def ring_nexts(*orders):
    """Return the nexts of rings along these orders."""
    return {a: b for order in orders for a, b in zip(order, [*order[1:], order[0]])}


def all_nexts(houses):
    """Return all nexts that these houses can have."""
    return [dict(zip(houses, row)) for row in itertools.product(houses, repeat=len(houses))]


def random_call(chance, net, words=CALLS, most=7):
    """Call the net once by one of these words, as far as it allows it."""
    houses = net.houses()
    letters = net.letters()
    word = chance.choice(words)
    if word == "admit" and len(houses) < most:
        free = [place for place in range(net.size) if place not in houses]
        if free:
            place = chance.choice(free)
            net.admit(place, chance.choice([*houses, *houses, place]))
    elif word in ("tell", "ask"):
        getattr(net, word)(chance.choice(houses))
    elif word in ("read", "lose") and letters:
        getattr(net, word)(chance.randrange(len(letters)))
    elif word == "repeat" and letters and len(letters) < 12:
        net.repeat(chance.randrange(len(letters)))


def some_nexts(chance, size, most):
    """Return random nexts, by half of the calls those of rings that may go round several times."""
    nexts = random_nexts(chance, size, most)
    if chance.random() < 0.5:
        return nexts
    order = chance.sample(list(nexts), len(nexts))
    at = chance.choice([0, 0, chance.randrange(len(order))])
    rings = ring_nexts(*[part for part in (order[:at], order[at:]) if part])
    if chance.random() < 0.5:
        house = chance.choice(order)
        rings[house] = nexts[house]
    return rings


def true_net(chance, size, most=6, calls=20):
    """Return a net in which all sayings are true, with letters under way."""
    net = Net(size, some_nexts(chance, size, most))
    for _ in range(chance.randrange(calls)):
        random_call(chance, net, CALLS_WITH_ADMIT, most)
    return net


def wild_net(chance, size, most=6, letters=3):
    """Return a net with befores and letters that may say what is untrue."""
    nexts = some_nexts(chance, size, most)
    houses = list(nexts)
    befores = {house: chance.choice(houses) for house in houses if chance.random() < 0.4}
    rows = [random_letter(chance, houses) for _ in range(chance.randrange(letters + 1))]
    return Net(size, nexts, befores=befores, letters=rows)


def random_letter(chance, houses):
    word = chance.choice(["tell", "ask", "answer"])
    return (word, *[chance.choice(houses) for _ in range(3 if word == "answer" else 2)])


def mixed_nets(chance, count, sizes=(1, 3, 6, 8, 11, 11), most=6):
    """Return many nets, by turns true ones and wild ones."""
    found = []
    for at in range(count):
        size = chance.choice(sizes)
        found.append(wild_net(chance, size, most) if at % 2 else true_net(chance, size, most))
    return found
