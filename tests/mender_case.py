"""What the tests of round letters have in common."""

import copy
import unittest

from ringlaps.mender import Mender
from ringlaps.net import Net

# A ring of two turns, along which three letters of a house come home with the length 20 each.
LAPPED = {1: 7, 4: 1, 7: 4}

# A ring of three turns with a tail, and a ring of one turn.
MIXED = {1: 9, 9: 7, 7: 4, 4: 1, 8: 4, 0: 5, 5: 0}


def lapped_mender(nexts=None, size=10):
    """Return a mender of a net with these nexts, otherwise of a ring of two turns."""
    return Mender(Net(size, LAPPED if nexts is None else nexts))


def memories(mender):
    return {house: mender.memory(house) for house in mender.net.houses()}


def state(mender):
    """Return all that can be told of a mender and its net."""
    return (mender.net.snapshot(), mender.laps(), memories(mender), mender.healers())


def carry_on(mender, at=-1):
    """Carry a letter until it is handed on no more, and return what comes of it then."""
    at = at % len(mender.laps())
    told = mender.carry(at)
    while told[0] == "handed":
        told = mender.carry(len(mender.laps()) - 1)
    return told


def send_round(mender, house):
    """Let a house write a letter, carry it to its end, and return what comes of it."""
    mender.write_lap(house)
    return carry_on(mender)


def outcome(function, *args):
    """Return what a call returns, or what it raises in a form that can be compared."""
    try:
        return function(*args)
    except ValueError as error:
        return (type(error).__name__, vars(error))


class MenderCase(unittest.TestCase):
    def check_told(self, mender, **told):
        """Check what the methods of this name tell, twice, and that they change nothing."""
        earlier = state(mender)
        for name, result in told.items():
            found = getattr(mender, name)()
            self.assertEqual(found, result)
            self.assertIs(type(found), type(result))
            found.clear()
            self.assertEqual(getattr(mender, name)(), result)
        self.assertEqual(state(mender), earlier)

    def check_memories(self, mender, expected):
        """Check what the houses remember; those that are not listed remember nothing."""
        for house in mender.net.houses():
            found = mender.memory(house)
            self.assertEqual(found, expected.get(house, (0, 0, None, False)), house)
            self.assertIs(type(found), tuple)
            self.assertIsInstance(found[3], bool)

    def check_call(self, mender, name, *args, result, **told):
        """Check what a call returns, and what the methods of this name tell after it."""
        found = getattr(mender, name)(*args)
        self.assertEqual(found, result)
        self.assertIs(type(found), type(result))
        self.check_told(mender, **told)

    def check_refused(self, mender, name, *args, error):
        """Check that a call raises an error of this kind and values, and changes nothing."""
        earlier = copy.deepcopy(state(mender))
        with self.subTest(name=name, args=args, state=earlier):
            with self.assertRaises(type(error)) as caught:
                getattr(mender, name)(*args)
            self.assertEqual(vars(caught.exception), vars(error))
            self.assertEqual(state(mender), earlier)
