"""Point 72: what round letters say, and that it stays true; all of them come home by it."""

import random
import unittest

from mender_case import LAPPED, lapped_mender
from net_case import CALLS_WITH_ADMIT, random_call, true_net
from piece_model import Model
from ringlaps.calm import calm_round
from ringlaps.laps import lap_saying
from ringlaps.mender import Mender
from ringlaps.net import Net
from ringlaps.pieces import on_ring
from ringlaps.sayings import holds_true

GREAT = 1000000000


class LapSayingTest(unittest.TestCase):
    def check_saying(self, letter, saying):
        found = lap_saying(letter)
        self.assertEqual(found, saying)
        self.assertIs(type(found), tuple)

    def test_letters(self):
        self.check_saying((1, 4, 0, 7, None), (4, 1, 7))
        self.check_saying((7, 4, 0, 13, 1), (4, 7, 13))
        self.check_saying((4, 4, 2, 20, 1), (4, 4, 20))
        self.check_saying((0, 3, 1, 5, 0), (3, 0, 5))
        self.check_saying((0, 0, 0, 10, None), (0, 0, 10))
        self.check_saying((GREAT - 1, 0, 2, 40 * GREAT - 1, 2), (0, GREAT - 1, 40 * GREAT - 1))

    def test_letters_of_a_mender(self):
        mender = lapped_mender()
        for house in LAPPED:
            mender.write_lap(house)
        mender.carry(1)
        self.assertEqual(mender.laps(), [(7, 1, 0, 6, None), (4, 7, 0, 7, None), (7, 4, 0, 13, 1)])
        self.assertEqual([lap_saying(letter) for letter in mender.laps()], [(1, 7, 6), (7, 4, 7), (4, 7, 13)])


class TruthTest(unittest.TestCase):
    """While all is true and no house has let go, round letters say what is true."""

    def one_step(self, chance, net, mender, most=7):
        """Do one call of point 73, but none by which a house could let go."""
        step = chance.random()
        if step < 0.45:
            random_call(chance, net, CALLS_WITH_ADMIT, most)
        elif step < 0.5:
            calm_round(net)
        elif step < 0.6:
            mender.write_lap(chance.choice(net.houses()))
        elif mender.laps():
            at = chance.randrange(len(mender.laps()))
            name = chance.choice(["carry", "carry", "carry", "carry", "drop_lap", "repeat_lap"])
            if name != "repeat_lap" or len(mender.laps()) < 12:
                getattr(mender, name)(at)

    def test_sayings_stay_true(self):
        chance = random.Random(72)
        checked = 0
        for _ in range(100):
            net = true_net(chance, chance.choice([3, 5, 8, 11]))
            mender = Mender(net)
            for _ in range(40):
                self.one_step(chance, net, mender)
                if mender.healers():
                    break
                for letter in mender.laps():
                    self.assertTrue(holds_true(net, lap_saying(letter)), (net.snapshot(), letter))
                    checked += 1
        self.assertGreater(checked, 2000)

    def test_total_of_a_ring_comes_home_whatever_changes(self):
        chance = random.Random(73)
        changed = lapped = 0
        for _ in range(150):
            net = true_net(chance, chance.choice([5, 8, 11]))
            model = Model(net)
            house = chance.choice([h for h in net.houses() if on_ring(net, h)])
            mender = Mender(net)
            # Many calls change the net between one step of the letter and the next.
            letter = mender.write_lap(house)
            for _ in range(200):
                random_call(chance, net, CALLS_WITH_ADMIT, 9)
                if chance.random() < 0.2 and letter[0] != house:
                    mender.carry(0)
                    letter = mender.laps()[0]
            self.assertEqual(letter, (house, house, 0, model.turns(house) * model.size, letter[4]))
            self.assertEqual(mender.carry(0), ("home", house, 1))
            changed += model.ring(house) != Model(net).ring(house)
            lapped += model.turns(house) > 1
        self.assertGreater(changed, 30)
        self.assertGreater(lapped, 20)

    def test_letter_of_a_house_off_the_rings_never_comes_home(self):
        chance = random.Random(74)
        tails = 0
        for _ in range(60):
            net = true_net(chance, 11)
            mender = Mender(net)
            for house in [h for h in net.houses() if not on_ring(net, h)]:
                mender.write_lap(house)
                for _ in range(20):
                    self.assertEqual(mender.carry(len(mender.laps()) - 1)[0], "handed")
                tails += 1
        self.assertGreater(tails, 20)

    def test_letter_that_is_home_tells_the_length_of_the_ring(self):
        net = Net(10, {1: 9, 9: 7, 7: 4, 4: 1, 8: 4})
        mender = Mender(net)
        for house in (1, 4, 7, 9):
            mender.write_lap(house)
            while mender.laps()[0][0] != house:
                mender.carry(0)
            self.assertEqual(lap_saying(mender.laps()[0]), (house, house, 30))
            mender.drop_lap(0)
