"""Points 67 to 75: round letters, what houses remember of them, calm laps and mending."""

import random

from lap_model import LapModel
from mender_case import (
    LAPPED,
    MIXED,
    MenderCase,
    carry_on,
    lapped_mender,
    memories,
    outcome,
    send_round,
    state,
)
from net_case import random_call, ring_nexts, some_nexts, true_net
from piece_model import Model
from ringlaps.calm import calm_round, settle
from ringlaps.clear import clear_fault, is_clear
from ringlaps.errors import NoHouse, NoLetter
from ringlaps.mender import Mender
from ringlaps.net import Net
from ringlaps.nettext import format_net

GREAT = 1000000000


class KeepTest(MenderCase):
    """Points 67 and 68."""

    def test_new_mender(self):
        net = Net(10, LAPPED)
        mender = Mender(net)
        self.assertIs(mender.net, net)
        self.check_told(mender, laps=[], healers=[])
        self.check_memories(mender, {})
        mender = Mender(Net(1, {}))
        self.check_told(mender, laps=[], healers=[])
        self.check_told(mender, calm_lap=[], mend=[])

    def test_two_menders_of_one_net(self):
        net = Net(10, LAPPED)
        first, second = Mender(net), Mender(net)
        for _ in range(2):
            send_round(first, 1)
        first.write_lap(4)
        self.check_told(second, laps=[], healers=[])
        self.check_memories(second, {})
        self.assertEqual(second.write_lap(1), (7, 1, 0, 6, None))
        self.assertEqual(first.laps(), [(1, 4, 0, 7, None)])
        self.assertEqual(send_round(first, 1), ("let go", 1, 3))
        self.check_told(first, healers=[1])
        self.check_told(second, laps=[(7, 1, 0, 6, None)], healers=[])
        self.assertEqual(second.memory(1), (0, 0, None, False))
        # Both work on the same houses: the letter of the second one comes home to the new ring.
        self.assertIs(first.net, second.net)
        self.assertEqual(second.write_lap(1), (1, 1, 0, 10, None))

    def test_calls_go_to_the_net_itself(self):
        net = Net(10, LAPPED)
        mender = Mender(net)
        net.tell(7)
        self.assertEqual(mender.net.letters(), [("tell", 4, 7)])
        mender.net.read(0)
        self.assertEqual(net.before_of(4), 7)
        net.hold(7, 1)
        self.assertEqual(mender.write_lap(7), (1, 7, 0, 4, None))
        self.assertEqual(net.letters(), [])
        self.assertEqual(format_net(net).split("\n")[-1], "house 7 next 1")

    def test_house_that_is_admitted_later(self):
        mender = lapped_mender()
        self.check_refused(mender, "memory", 8, error=NoHouse(8))
        self.check_refused(mender, "write_lap", 8, error=NoHouse(8))
        mender.net.admit(8, 4)
        self.assertEqual(mender.memory(8), (0, 0, None, False))
        self.assertEqual(mender.write_lap(8), (4, 8, 0, 6, None))
        self.assertEqual(mender.carry(0), ("handed", 4, 1))
        self.check_memories(mender, {4: (0, 0, 8, False)})

    def test_house_that_is_taken_out_and_admitted_again(self):
        mender = lapped_mender({**LAPPED, 8: 4, 3: 8})
        # 8 is on no ring, but it reads the letter of 3.
        mender.write_lap(3)
        mender.carry(0)
        mender.net.hold(3, 4)
        self.assertEqual(mender.memory(8), (0, 0, 3, False))
        mender.net.take_out(8)
        self.check_refused(mender, "memory", 8, error=NoHouse(8))
        self.check_refused(mender, "write_lap", 8, error=NoHouse(8))
        mender.net.admit(8, 8)
        self.check_memories(mender, {8: (0, 0, 3, False)})

    def test_stage_lap_and_swallowing_outlast_the_house(self):
        mender = lapped_mender()
        for _ in range(3):
            send_round(mender, 1)
        mender.net.hold(4, 4)
        mender.net.take_out(1)
        mender.net.admit(1, 7)
        self.check_memories(mender, {1: (3, 20, None, True), 4: (0, 0, 1, False), 7: (0, 0, 1, False)})
        self.check_call(mender, "write_lap", 1, result=None, laps=[], healers=[1])
        mender.net.hold(7, 1)
        mender.write_lap(7)
        self.check_call(mender, "carry", 0, result=("swallowed", 1, 7), laps=[])
        # At another place a new house remembers nothing.
        mender.net.admit(2, 2)
        self.assertEqual(mender.memory(2), (0, 0, None, False))

    def test_places_without_a_house(self):
        for place in (0, 2, 8, 10, -1):
            for name in ("memory", "write_lap"):
                self.check_refused(lapped_mender(), name, place, error=NoHouse(place))
        self.check_refused(lapped_mender({}), "memory", 0, error=NoHouse(0))

    def test_laps_are_listed_the_oldest_first(self):
        mender = lapped_mender()
        first, second, third = [mender.write_lap(house) for house in (7, 1, 4)]
        self.check_told(mender, laps=[first, second, third])
        mender.repeat_lap(1)
        self.check_told(mender, laps=[first, second, third, second])
        mender.carry(0)
        self.check_told(mender, laps=[second, third, second, (1, 7, 0, 14, 4)])
        mender.drop_lap(1)
        self.check_told(mender, laps=[second, second, (1, 7, 0, 14, 4)])

    def test_healers_are_listed_as_they_let_go(self):
        nexts = ring_nexts([2, 8, 5], [9, 16, 12], [1, 17, 13])
        for order in ([9, 1, 2], [2, 9, 1], [1, 2, 9]):
            mender = lapped_mender(nexts, 20)
            for at, house in enumerate(order):
                for told in [("home", house, 1), ("home", house, 2), ("let go", house, 3)]:
                    self.assertEqual(send_round(mender, house), told)
                self.check_told(mender, healers=order[: at + 1])


class WriteTest(MenderCase):
    """Point 69."""

    def test_each_stage(self):
        mender = lapped_mender()
        for stage, memory in enumerate([(0, 0, None, False), (1, 0, None, False), (2, 20, None, False)]):
            self.assertEqual(mender.memory(1), memory)
            letter = (7, 1, stage, 6, None)
            self.check_call(mender, "write_lap", 1, result=letter, laps=[letter])
            self.assertEqual(mender.memory(1), memory)
            carry_on(mender)
        self.assertEqual(mender.memory(1), (3, 20, None, True))
        self.check_call(mender, "write_lap", 1, result=None, laps=[], healers=[1])

    def test_stage_three_of_a_house_that_has_not_let_go(self):
        mender = lapped_mender()
        for told in [("home", 4, 1), ("home", 4, 2), ("home", 4, 3)]:
            self.assertEqual(send_round(mender, 4), told)
        self.check_call(mender, "write_lap", 4, result=None, laps=[], healers=[])
        self.check_call(mender, "write_lap", 7, result=(4, 7, 0, 7, None), laps=[(4, 7, 0, 7, None)])

    def test_several_letters_of_one_stage(self):
        mender = lapped_mender()
        letters = [(7, 1, 0, 6, None), (4, 7, 0, 7, None)]
        for house in (1, 7, 1):
            mender.write_lap(house)
        self.check_told(mender, laps=[letters[0], letters[1], letters[0]])

    def test_house_that_is_its_own_next(self):
        mender = lapped_mender({3: 3, 5: 3})
        self.check_call(mender, "write_lap", 3, result=(3, 3, 0, 10, None), laps=[(3, 3, 0, 10, None)])
        mender = lapped_mender({0: 0}, 1)
        self.assertEqual(mender.write_lap(0), (0, 0, 0, 1, None))

    def test_house_off_the_ring(self):
        mender = lapped_mender(MIXED)
        self.check_call(mender, "write_lap", 8, result=(4, 8, 0, 6, None))
        self.check_call(mender, "write_lap", 5, result=(0, 5, 0, 5, None))


class CarryTest(MenderCase):
    """Point 70."""

    def check_carry(self, mender, told, memory, laps=()):
        """Carry the only letter; memory is that of its reader afterwards."""
        reader = mender.laps()[0][0]
        others = {h: m for h, m in memories(mender).items() if h != reader}
        self.check_call(mender, "carry", 0, result=told, laps=list(laps))
        self.check_memories(mender, {**others, reader: memory})

    def test_example(self):
        mender = lapped_mender()
        self.assertEqual(mender.write_lap(4), (1, 4, 0, 7, None))
        self.check_carry(mender, ("handed", 1, 7), (0, 0, 4, False), [(7, 4, 0, 13, 1)])
        self.check_carry(mender, ("handed", 7, 4), (0, 0, 4, False), [(4, 4, 0, 20, 1)])
        self.check_carry(mender, ("home", 4, 1), (1, 0, None, False))
        self.assertEqual(mender.mend(), [1])
        self.assertEqual(mender.memory(1), (3, 20, 4, True))
        self.assertEqual(mender.net.nexts(), {1: 4, 4: 7, 7: 1})

    def test_home_at_each_number(self):
        mender = lapped_mender({3: 8, 8: 3})
        for stage, lap in [(1, 0), (2, 10), (3, 10)]:
            mender.write_lap(3)
            self.check_carry(mender, ("handed", 8, 3), (0, 0, 3, False), [(3, 3, stage - 1, 10, 8)])
            self.check_carry(mender, ("home", 3, stage), (stage, lap, None, False))
        self.check_told(mender, healers=[])
        self.assertEqual(mender.net.nexts(), {3: 8, 8: 3})

    def test_least_writer_seen_stays_when_a_letter_is_home(self):
        mender = lapped_mender({3: 8, 8: 3})
        send_round(mender, 8)
        mender.write_lap(3)
        mender.carry(0)
        self.check_carry(mender, ("home", 3, 1), (1, 0, 8, False))

    def test_stale_letters(self):
        mender = lapped_mender({3: 3})
        for stage, lap in [(1, 0), (2, 10), (3, 10)]:
            letter = mender.write_lap(3)
            for _ in range(2):
                mender.repeat_lap(0)
            self.check_call(mender, "carry", 0, result=("home", 3, stage), laps=[letter] * 2)
            self.check_call(mender, "carry", 0, result=("stale", 3, stage), laps=[letter])
            self.check_carry(mender, ("stale", 3, stage), (stage, lap, None, False))
        self.check_told(mender, healers=[])

    def test_stage_that_is_higher_by_several(self):
        mender = lapped_mender({3: 3})
        for number in range(3):
            mender.write_lap(3)
            mender.repeat_lap(number)
            mender.carry(number)
        self.assertEqual(mender.laps(), [(3, 3, number, 10, None) for number in range(3)])
        for number in range(3):
            self.check_call(mender, "carry", 0, result=("stale", 3, 3))
            self.assertEqual(mender.memory(3), (3, 10, None, False))

    def test_letter_of_a_house_that_is_admitted_again(self):
        # Its memory outlasts the house, so the letter is not too early when it comes home.
        mender = lapped_mender({3: 3, 4: 4})
        send_round(mender, 3)
        mender.write_lap(3)
        mender.net.take_out(3)
        mender.net.admit(3, 3)
        self.assertEqual(mender.laps(), [(3, 3, 1, 10, None)])
        self.check_carry(mender, ("home", 3, 2), (2, 10, None, False))

    def lapped(self, nexts, house, size=10):
        """Return a mender in which the third letter of a house is under way."""
        mender = lapped_mender(nexts, size)
        for stage in (1, 2):
            self.assertEqual(send_round(mender, house), ("home", house, stage))
        mender.write_lap(house)
        return mender

    def test_letting_go(self):
        mender = self.lapped(LAPPED, 1)
        mender.net.tell(4)
        befores, letters = mender.net.befores(), mender.net.letters()
        mender.carry(0)
        mender.carry(0)
        self.assertEqual(mender.laps(), [(1, 1, 2, 20, 4)])
        self.check_carry(mender, ("let go", 1, 3), (3, 20, None, True))
        self.assertEqual(mender.net.nexts(), {1: 1, 4: 1, 7: 4})
        self.assertEqual((mender.net.befores(), mender.net.letters()), (befores, letters))
        self.check_told(mender, healers=[1])

    def test_letting_go_with_a_greater_writer_seen(self):
        mender = lapped_mender()
        for house in (4, 7):
            send_round(mender, house)
        for told in [("home", 1, 1), ("home", 1, 2), ("let go", 1, 3)]:
            self.assertEqual(send_round(mender, 1), told)
        self.assertEqual(mender.memory(1), (3, 20, 4, True))

    def test_letting_go_on_rings_of_several_turns(self):
        for order, turns in [([1, 9, 7, 4], 3), ([0, 9, 8, 7, 6, 5, 4, 3, 2, 1], 9), ([2, 5, 3, 8], 2)]:
            mender = self.lapped(ring_nexts(order), order[0])
            self.assertEqual(mender.memory(order[0]), (2, turns * 10, None, False))
            self.assertEqual(carry_on(mender), ("let go", order[0], 3))
            self.assertEqual(mender.memory(order[0]), (3, turns * 10, None, True))

    def test_house_zero_counts_as_a_house(self):
        mender = self.lapped(ring_nexts([0, 7, 4]), 4)
        self.assertEqual(carry_on(mender), ("home", 4, 3))
        mender = lapped_mender({**ring_nexts([2, 8, 5]), 0: 8})
        send_round(mender, 5)
        mender.write_lap(0)
        for _ in range(3):
            mender.carry(0)
        mender.drop_lap(0)
        self.assertEqual([mender.memory(house)[2] for house in (2, 5, 8)], [0, 0, 0])
        for told in [("home", 2, 1), ("home", 2, 2), ("home", 2, 3)]:
            self.assertEqual(send_round(mender, 2), told)

    def test_total_that_is_not_the_lap(self):
        # The ring gets shorter, or longer, by a turn between the second and the third letter.
        for nexts, changed in [(ring_nexts([1, 9, 7, 4]), [(1, 7)]), ({**LAPPED, 9: 7}, [(1, 9)])]:
            mender = self.lapped(nexts, 1)
            mender.drop_lap(0)
            lap = mender.memory(1)[1]
            for house, target in changed:
                mender.net.hold(house, target)
            mender.write_lap(1)
            while mender.laps()[0][0] != 1:
                mender.carry(0)
            _, _, number, total, least = mender.laps()[0]
            self.assertEqual((number, total + lap, least), (2, 50, 4))
            self.assertEqual(mender.memory(1), (2, lap, None, False))
            self.check_carry(mender, ("home", 1, 3), (3, lap, None, False))
            self.check_told(mender, healers=[])
            self.assertNotEqual(mender.net.next_of(1), 1)

    def test_total_of_less_than_two_turns(self):
        for nexts in (ring_nexts([1, 4, 7]), {1: 1}):
            mender = self.lapped(nexts, 1)
            self.assertEqual(carry_on(mender), ("home", 1, 3))
            self.assertEqual(mender.memory(1), (3, 10, None, False))
            self.check_told(mender, healers=[])
            self.assertEqual(mender.net.nexts(), nexts)

    def test_least_reader_that_is_not_greater(self):
        for house in (4, 7):
            mender = self.lapped(LAPPED, house)
            for _ in range(2):
                mender.carry(0)
            self.assertEqual(mender.laps(), [(house, house, 2, 20, 1)])
            self.check_carry(mender, ("home", house, 3), (3, 20, None, False))
            self.assertEqual(mender.net.nexts(), LAPPED)

    def test_least_writer_seen_that_is_not_greater(self):
        # 1 is on no ring: 4 has read a letter of it, but no letter of 4 is read by it.
        mender = lapped_mender({**ring_nexts([4, 9, 6]), 1: 9})
        mender.write_lap(1)
        for _ in range(3):
            mender.carry(0)
        self.assertEqual(mender.memory(4), (0, 0, 1, False))
        mender.drop_lap(0)
        for told in [("home", 4, 1), ("home", 4, 2)]:
            self.assertEqual(send_round(mender, 4), told)
        mender.write_lap(4)
        for _ in range(2):
            mender.carry(0)
        self.assertEqual(mender.laps(), [(4, 4, 2, 20, 6)])
        self.check_carry(mender, ("home", 4, 3), (3, 20, 1, False))
        self.check_told(mender, healers=[])

    def test_only_the_third_letter_lets_go(self):
        mender = lapped_mender()
        for number, memory in [(0, (1, 0, None, False)), (1, (2, 20, None, False))]:
            mender.write_lap(1)
            for _ in range(2):
                mender.carry(0)
            self.assertEqual(mender.laps(), [(1, 1, number, 20, 4)])
            self.check_carry(mender, ("home", 1, number + 1), memory)
            self.assertEqual(mender.net.nexts(), LAPPED)

    def test_letter_before_the_third_with_a_lap_that_fits(self):
        # The lap is 0 at number 0, so a fitting one can only be come to at number 1.
        mender = lapped_mender()
        send_round(mender, 1)
        mender.write_lap(1)
        mender.repeat_lap(0)
        self.assertEqual(carry_on(mender, 0), ("home", 1, 2))
        self.assertEqual(carry_on(mender, 0), ("stale", 1, 2))
        self.check_memories(mender, {1: (2, 20, None, False), 4: (0, 0, 1, False), 7: (0, 0, 1, False)})

    def test_letting_go_of_a_house_that_is_its_own_next(self):
        mender = self.lapped(LAPPED, 1)
        for _ in range(2):
            mender.carry(0)
        mender.net.hold(1, 1)
        self.check_carry(mender, ("let go", 1, 3), (3, 20, None, True))
        self.check_told(mender, healers=[1])
        self.assertEqual(mender.net.nexts(), {1: 1, 4: 1, 7: 4})

    def test_swallowed(self):
        mender = self.lapped(LAPPED, 1)
        mender.write_lap(4)
        mender.write_lap(7)
        self.assertEqual(carry_on(mender, 0), ("let go", 1, 3))
        memory = (3, 20, None, True)
        self.check_call(mender, "carry", 0, result=("swallowed", 1, 4), laps=[(4, 7, 0, 7, None)])
        self.assertEqual(mender.memory(1), memory)
        self.check_call(mender, "carry", 0, result=("handed", 4, 1), laps=[(1, 7, 0, 14, 4)])
        self.check_carry(mender, ("swallowed", 1, 7), memory)

    def test_letter_that_is_home_comes_ahead_of_swallowing(self):
        mender = self.lapped(LAPPED, 1)
        mender.repeat_lap(0)
        self.assertEqual(carry_on(mender, 0), ("let go", 1, 3))
        for _ in range(2):
            mender.carry(0)
        self.check_carry(mender, ("stale", 1, 3), (3, 20, None, True))
        self.check_told(mender, healers=[1])

    def test_house_at_the_last_stage_that_does_not_swallow_hands_on(self):
        mender = self.lapped(LAPPED, 4)
        self.assertEqual(carry_on(mender), ("home", 4, 3))
        mender.write_lap(7)
        self.check_carry(mender, ("handed", 4, 1), (3, 20, 7, False), [(1, 7, 0, 14, 4)])

    def test_least_reader_on_the_way(self):
        # The letter of 5 is read by 6, a greater one, by lesser ones, and by 3 and 8 again.
        nexts = {5: 6, 6: 8, 8: 3, 3: 9, 9: 8}
        mender = lapped_mender(nexts)
        mender.write_lap(5)
        found = []
        for _ in range(8):
            mender.carry(0)
            found.append((mender.laps()[0][0], mender.laps()[0][4]))
        self.assertEqual(found, [(8, 6), (3, 6), (9, 3), (8, 3), (3, 3), (9, 3), (8, 3), (3, 3)])
        self.assertEqual(mender.laps()[0], (3, 5, 0, 1 + 2 + 5 + 6 + 9 + 5 + 6 + 9 + 5, 3))

    def test_least_reader_that_gets_lesser_twice_and_zero(self):
        mender = lapped_mender(ring_nexts([9, 6, 8, 3, 5, 0, 1]))
        mender.write_lap(9)
        found = []
        for _ in range(6):
            mender.carry(0)
            found.append(mender.laps()[0][4])
        self.assertEqual(found, [6, 6, 3, 3, 0, 0])

    def test_least_writer_seen(self):
        nexts = {4: 4, 9: 4, 2: 4, 6: 4, 0: 4}
        mender = lapped_mender(nexts)
        found = []
        for house in (6, 9, 6, 2, 9, 2, 0, 2):
            mender.write_lap(house)
            self.assertEqual(mender.carry(0), ("handed", 4, 4))
            mender.drop_lap(0)
            found.append(mender.memory(4)[2])
        self.assertEqual(found, [6, 6, 6, 2, 2, 2, 0, 0])
        # Its own letter does not count.
        self.assertEqual(send_round(mender, 4), ("home", 4, 1))
        self.assertEqual(mender.memory(4), (1, 0, 0, False))

    def test_least_writer_seen_keeps_the_rest_of_the_memory(self):
        mender = lapped_mender({4: 4, 2: 4})
        for memory in [(0, 0, 2, False), (1, 0, 2, False), (2, 10, 2, False), (3, 10, 2, False)]:
            mender.write_lap(2)
            self.check_carry(mender, ("handed", 4, 4), memory, [(4, 2, 0, 12, 4)])
            mender.drop_lap(0)
            mender.write_lap(4)
            if mender.laps():
                mender.carry(0)

    def test_any_letter_under_way_can_be_carried(self):
        for at in range(3):
            mender = lapped_mender()
            letters = [mender.write_lap(house) for house in (1, 4, 7)]
            told = [("handed", 7, 4), ("handed", 1, 7), ("handed", 4, 1)][at]
            handed = [(4, 1, 0, 13, 7), (7, 4, 0, 13, 1), (1, 7, 0, 14, 4)][at]
            laps = [*letters[:at], *letters[at + 1 :], handed]
            self.check_call(mender, "carry", at, result=told, laps=laps)

    def test_reader_that_is_no_house_any_more(self):
        mender = lapped_mender({**LAPPED, 8: 4, 3: 8})
        mender.write_lap(1)
        mender.write_lap(3)
        mender.write_lap(3)
        mender.net.hold(3, 4)
        mender.net.take_out(8)
        for at in (1, 2):
            self.check_refused(mender, "carry", at, error=NoHouse(8))
        self.assertEqual(len(mender.laps()), 3)
        self.check_call(mender, "carry", 0, result=("handed", 7, 4))
        # The letter is read by the house that is admitted there later.
        mender.net.admit(8, 1)
        self.check_call(mender, "carry", 0, result=("handed", 8, 1))
        self.assertEqual(mender.laps()[-1], (1, 3, 0, 8, 8))

    def test_writer_that_is_no_house_any_more(self):
        mender = lapped_mender({**LAPPED, 8: 4})
        mender.write_lap(8)
        mender.net.take_out(8)
        self.check_carry(mender, ("handed", 4, 1), (0, 0, 8, False), [(1, 8, 0, 13, 4)])
        mender = lapped_mender({3: 3})
        mender.write_lap(3)
        mender.net.take_out(3)
        self.check_refused(mender, "carry", 0, error=NoHouse(3))

    def test_indexes(self):
        for name in ("carry", "drop_lap", "repeat_lap"):
            mender = lapped_mender()
            for at in (0, -1, 1, GREAT):
                self.check_refused(mender, name, at, error=NoLetter(at))
            mender.write_lap(1)
            mender.write_lap(4)
            for at in (-1, -2, -3, 2, 3, GREAT):
                self.check_refused(mender, name, at, error=NoLetter(at))

    def test_no_letter_comes_ahead_of_no_house(self):
        mender = lapped_mender({3: 3, 5: 5})
        mender.write_lap(3)
        mender.net.take_out(3)
        for at in (-1, 1):
            self.check_refused(mender, "carry", at, error=NoLetter(at))
        self.check_refused(mender, "carry", 0, error=NoHouse(3))

    def test_letters_of_the_net_are_not_touched(self):
        mender = lapped_mender()
        mender.net.ask(4)
        for _ in range(3):
            send_round(mender, 1)
        self.assertEqual(mender.net.letters(), [("ask", 1, 4)])
        self.check_refused(mender, "carry", 0, error=NoLetter(0))

    def test_great_circle(self):
        order = list(range(GREAT - 1, GREAT - 41, -1))
        mender = self.lapped(ring_nexts(order), order[-1], GREAT)
        self.assertEqual(mender.memory(order[-1]), (2, 39 * GREAT, None, False))
        self.assertEqual(carry_on(mender), ("let go", order[-1], 3))


class DropAndRepeatTest(MenderCase):
    """Point 71."""

    def letters(self):
        mender = lapped_mender()
        return mender, [mender.write_lap(house) for house in (1, 4, 7)]

    def test_drop(self):
        for at in range(3):
            mender, letters = self.letters()
            memory = memories(mender)
            rest = [*letters[:at], *letters[at + 1 :]]
            self.check_call(mender, "drop_lap", at, result=letters[at], laps=rest)
            self.assertEqual(memories(mender), memory)

    def test_repeat(self):
        for at in range(3):
            mender, letters = self.letters()
            memory = memories(mender)
            self.check_call(mender, "repeat_lap", at, result=letters[at], laps=[*letters, letters[at]])
            self.assertEqual(memories(mender), memory)

    def test_letters_whose_reader_is_gone(self):
        mender = lapped_mender({3: 3})
        letter = mender.write_lap(3)
        mender.net.take_out(3)
        self.check_call(mender, "repeat_lap", 0, result=letter, laps=[letter, letter])
        self.check_call(mender, "drop_lap", 1, result=letter, laps=[letter])


class CalmLapTest(MenderCase):
    """Point 74."""

    def test_ring_of_one_turn(self):
        mender = lapped_mender(ring_nexts([1, 4, 7]))
        for stage, lap in [(1, 0), (2, 10), (3, 10)]:
            self.assertEqual(mender.calm_lap(), [1, 4, 7])
            seen = {1: 4, 4: 1, 7: 1}
            self.check_memories(mender, {house: (stage, lap, seen[house], False) for house in seen})
        self.check_told(mender, calm_lap=[], laps=[], healers=[])
        self.assertEqual(mender.net.nexts(), ring_nexts([1, 4, 7]))

    def test_house_alone(self):
        mender = lapped_mender({3: 3})
        for stage, lap in [(1, 0), (2, 10), (3, 10)]:
            self.assertEqual(mender.calm_lap(), [3])
            self.check_memories(mender, {3: (stage, lap, None, False)})
        self.check_told(mender, calm_lap=[], healers=[])

    def test_ring_of_two_turns(self):
        mender = lapped_mender()
        for _ in range(2):
            self.assertEqual(mender.calm_lap(), [1, 4, 7])
        # Now 1 lets go at once and swallows what 4 and 7 send round after it.
        self.assertEqual(mender.calm_lap(), [1])
        self.check_told(mender, healers=[1], laps=[])
        self.assertEqual(mender.net.nexts(), {1: 1, 4: 1, 7: 4})
        memory = {1: (3, 20, 4, True), 4: (2, 20, 1, False), 7: (2, 20, 1, False)}
        self.check_memories(mender, memory)
        self.check_told(mender, calm_lap=[])

    def test_stages_that_differ(self):
        mender = lapped_mender(ring_nexts([1, 4, 7]))
        for _ in range(3):
            send_round(mender, 4)
        send_round(mender, 7)
        self.assertEqual(mender.calm_lap(), [1, 7])
        self.assertEqual([mender.memory(house)[0] for house in (1, 4, 7)], [1, 3, 2])
        self.assertEqual(mender.calm_lap(), [1, 7])
        self.assertEqual(mender.calm_lap(), [1])
        self.assertEqual(mender.calm_lap(), [])

    def test_letter_that_is_lost(self):
        # 8 is on no ring; its letter is read by five houses, as many as there are.
        mender = lapped_mender({**LAPPED, 8: 4, 0: 0})
        self.assertEqual(mender.calm_lap(), [0, 1, 4, 7])
        self.check_told(mender, laps=[])
        self.check_memories(
            mender,
            {
                0: (1, 0, None, False),
                1: (1, 0, 4, False),
                4: (1, 0, 1, False),
                7: (1, 0, 1, False),
            },
        )

    def test_letter_that_is_read_by_some_houses_again_and_again(self):
        mender = lapped_mender({1: 2, 2: 3, 3: 2, 4: 4})
        self.assertEqual(mender.calm_lap(), [2, 3, 4])
        memory = {2: (1, 0, 1, False), 3: (1, 0, 1, False), 4: (1, 0, None, False)}
        self.check_memories(mender, memory)

    def test_letter_that_is_home_as_the_last_of_all_houses_reads_it(self):
        for order in ([5, 6, 7, 8, 9], [9, 8, 7, 6, 5], [3, 8], list(range(40))):
            mender = lapped_mender(ring_nexts(order), 50)
            self.assertEqual(mender.calm_lap(), sorted(order))

    def test_letters_under_way_are_not_touched(self):
        mender = lapped_mender()
        mender.net.tell(7)
        mender.net.ask(4)
        laps = [mender.write_lap(house) for house in (7, 1)]
        letters, befores = mender.net.letters(), mender.net.befores()
        self.assertEqual(mender.calm_lap(), [1, 4, 7])
        self.check_told(mender, laps=laps)
        self.assertEqual((mender.net.letters(), mender.net.befores()), (letters, befores))
        # The stage has grown meanwhile, so these letters come home too late.
        self.assertEqual(carry_on(mender, 0), ("stale", 7, 1))
        self.assertEqual(carry_on(mender, 0), ("stale", 1, 1))

    def test_several_pieces(self):
        mender = lapped_mender(MIXED)
        for _ in range(2):
            self.assertEqual(mender.calm_lap(), [0, 1, 4, 5, 7, 9])
        self.assertEqual(mender.calm_lap(), [0, 1, 5])
        self.check_told(mender, healers=[1])
        self.assertEqual(mender.calm_lap(), [])

    def test_houses_that_let_go_in_two_pieces(self):
        mender = lapped_mender({**ring_nexts([4, 9, 6]), **ring_nexts([2, 7, 5])})
        for result in ([2, 4, 5, 6, 7, 9], [2, 4, 5, 6, 7, 9], [2, 4], []):
            self.assertEqual(mender.calm_lap(), result)
        self.check_told(mender, healers=[2, 4])

    def test_letters_ahead_of_that_of_the_house_that_lets_go(self):
        # 2 and 8 are on no ring; the letter of 2 is read by 6 only, that of 8 by none.
        mender = lapped_mender({**ring_nexts([4, 9, 6]), 2: 6, 8: 4})
        for _ in range(2):
            send_round(mender, 4)
        mender.write_lap(4)
        self.assertEqual(carry_on(mender), ("let go", 4, 3))
        self.assertEqual(mender.calm_lap(), [])
        memory = {4: (3, 20, None, True), 6: (0, 0, 2, False), 9: (0, 0, 4, False)}
        self.check_memories(mender, memory)

    def test_least_house_off_the_ring(self):
        # 0 has sent its letter round first, so no house of the ring is below all writers seen.
        mender = lapped_mender({**LAPPED, 0: 7})
        for _ in range(3):
            self.assertEqual(mender.calm_lap(), [1, 4, 7])
        self.check_told(mender, healers=[], calm_lap=[])
        self.check_memories(mender, {house: (3, 20, 0, False) for house in LAPPED})


class MendTest(MenderCase):
    """Points 73 and 75."""

    def check_mend(self, mender, result, nexts):
        letters, laps = mender.net.letters(), mender.laps()
        known = mender.healers()
        found = mender.mend()
        self.assertEqual(found, result)
        found.append(0)
        self.assertEqual(mender.net.nexts(), nexts)
        self.assertEqual((mender.net.letters(), mender.laps()), (letters, laps))
        self.check_told(mender, healers=[*known, *result])
        self.check_told(mender, mend=[])

    def test_rings_of_one_turn(self):
        self.check_mend(lapped_mender({}), [], {})
        self.check_mend(lapped_mender({3: 3}), [], {3: 3})
        self.check_mend(lapped_mender({1: 1, 4: 1, 7: 4}), [], ring_nexts([1, 4, 7]))
        nexts = ring_nexts([1, 7], [3, 5])
        self.check_mend(lapped_mender(nexts), [], nexts)

    def test_rings_of_several_turns(self):
        self.check_mend(lapped_mender(), [1], ring_nexts([1, 4, 7]))
        self.check_mend(lapped_mender({**LAPPED, 8: 4}), [1], ring_nexts([1, 4, 7, 8]))
        self.check_mend(lapped_mender({**LAPPED, 0: 4}), [0], ring_nexts([0, 1, 4, 7]))
        self.check_mend(lapped_mender(ring_nexts([9, 7, 4, 1])), [1], ring_nexts([1, 4, 7, 9]))
        self.check_mend(lapped_mender(MIXED), [1], {**ring_nexts([1, 4, 7, 8, 9]), 0: 5, 5: 0})

    def test_several_pieces_of_several_turns(self):
        nexts = {**ring_nexts([12, 16, 14], [3, 9, 6], [1, 19, 8, 5], [17]), 0: 12}
        result = [0, 1, 3]
        ends = ring_nexts([0, 12, 14, 16], [1, 5, 8, 19], [3, 6, 9], [17])
        self.check_mend(lapped_mender(nexts, 20), result, ends)

    def test_second_call_lists_only_its_own(self):
        mender = lapped_mender()
        self.check_mend(mender, [1], ring_nexts([1, 4, 7]))
        # The net is turned into a ring of several turns again, and new houses join it.
        nexts = ring_nexts([2, 8, 5])
        for house in nexts:
            mender.net.admit(house, house)
        for house, target in nexts.items():
            mender.net.hold(house, target)
        self.check_mend(mender, [2], {**ring_nexts([1, 4, 7], [2, 5, 8])})
        self.check_told(mender, healers=[1, 2])

    def test_letters_under_way_stay(self):
        mender = lapped_mender()
        mender.net.tell(7)
        mender.net.ask(1)
        for house in (4, 1, 7):
            mender.write_lap(house)
        mender.carry(1)
        self.check_mend(mender, [1], ring_nexts([1, 4, 7]))

    def test_least_house_that_comes_into_the_ring(self):
        mender = lapped_mender({**LAPPED, 0: 7})
        self.check_mend(mender, [0], ring_nexts([0, 1, 4, 7]))
        self.assertEqual(mender.memory(0), (3, 20, 1, True))

    def test_last_calm_lap_leaves_befores_of_a_settled_net(self):
        mender = lapped_mender({1: 4, 4: 7, 7: 1})
        mender.mend()
        self.assertEqual(mender.net.befores(), {1: 7, 4: 1, 7: 4})

    def test_letters_that_were_lost_repeated_and_read_late(self):
        mender = lapped_mender()
        for house in (1, 4, 7):
            mender.write_lap(house)
            mender.repeat_lap(0)
        mender.drop_lap(1)
        late = mender.laps()
        for at in (0, 0, 2, 1):
            mender.carry(at)
        self.assertNotEqual(mender.laps(), late)
        self.check_mend(mender, [1], ring_nexts([1, 4, 7]))
        while mender.laps():
            self.assertIn(carry_on(mender, 0)[0], ("stale", "swallowed"))
        self.check_mend(mender, [], ring_nexts([1, 4, 7]))

    def test_many_houses(self):
        order = list(range(0, GREAT, GREAT // 40))
        mender = lapped_mender(ring_nexts(order[::-1]), GREAT)
        self.check_mend(mender, [0], ring_nexts(order))
        self.assertEqual(mender.memory(0)[1], 39 * GREAT)


CALLS = "write_lap write_lap carry carry carry carry carry carry drop_lap repeat_lap".split()


def random_lap_call(chance, mender):
    """Call the mender once as point 73 allows it, and return what it returns."""
    name = chance.choice(CALLS)
    if name == "write_lap":
        return mender.write_lap(chance.choice(mender.net.houses()))
    count = len(mender.laps())
    if count == 0 or name == "repeat_lap" and count > 8:
        return None
    return getattr(mender, name)(chance.randrange(count))


class PromiseTest(MenderCase):
    """Point 73; and the model is compared where nothing is promised of whole runs, too."""

    def any_step(self, chance, mender):
        step = chance.random()
        if step < 0.35:
            random_call(chance, mender.net, ("tell", "ask", "read", "read", "lose", "repeat", "admit"), 8)
        elif step < 0.4:
            chance.choice([calm_round, settle])(mender.net)
        elif step < 0.43:
            mender.calm_lap()
        elif step < 0.44:
            mender.mend()
        else:
            random_lap_call(chance, mender)

    def test_at_most_one_house_of_each_piece_lets_go(self):
        chance = random.Random(75)
        healed = 0
        for _ in range(120):
            net = true_net(chance, chance.choice([5, 8, 11]))
            mender = Mender(net)
            model = Model(net)
            pieces = [[model.turns(piece[0]), set(piece)] for piece in model.pieces()]
            for _ in range(chance.randrange(150)):
                self.any_step(chance, mender)
                self.follow_pieces(net, pieces)
                self.check_healers(mender, pieces)
            healed += len(mender.healers())
            self.check_mended(mender, pieces)
        self.assertGreater(healed, 5)

    def follow_pieces(self, net, pieces):
        """Let new houses join the piece of their host, or be pieces of their own."""
        for piece in Model(net).pieces():
            known = [old for _, old in pieces if old & set(piece)]
            self.assertLessEqual(len(known), 1)
            if known:
                known[0].update(piece)
            else:
                pieces.append([1, set(piece)])

    def check_healers(self, mender, pieces):
        for turns, piece in pieces:
            healers = [house for house in mender.healers() if house in piece]
            self.assertLessEqual(len(healers), 1 if turns > 1 else 0)
            for house in healers:
                self.assertTrue(is_clear(mender.net, house), clear_fault(mender.net, house))

    def check_mended(self, mender, pieces):
        mender.mend()
        model = Model(mender.net)
        self.assertEqual(model.pieces(), sorted(tuple(sorted(piece)) for _, piece in pieces))
        for turns, piece in pieces:
            self.assertEqual(model.ring(min(piece)), sorted(piece))
            healers = [house for house in mender.healers() if house in piece]
            self.assertEqual(len(healers), 1 if turns > 1 else 0)

    def test_against_the_model(self):
        chance = random.Random(76)
        words = {}
        for _ in range(120):
            size = chance.choice([1, 4, 5, 8, 8])
            nexts = some_nexts(chance, size, 4)
            if chance.random() < 0.6:
                nexts = ring_nexts(chance.sample(range(size), min(size, 4)))
            mender = Mender(Net(size, nexts))
            model = LapModel(size, nexts)
            for _ in range(80):
                told = self.same_step(chance, mender, model)
                words[told] = words.get(told, 0) + 1
                memory = {house: model.memory(house) for house in sorted(model.nexts)}
                self.assertEqual(state(mender), (model.snapshot(), model.laps, memory, model.healers))
        for told in ("stale", "home", "let go", "swallowed", "handed", "NoHouse", "NoLetter"):
            self.assertGreater(words.get(told, 0), 5, told)

    def same_step(self, chance, mender, model):
        """Do some calls on both and return the word that they come to."""
        houses = sorted(model.nexts)
        step = chance.random()
        if step < 0.03:
            return self.same_change(chance, mender, model, houses)
        if step < 0.06:
            return self.same_call(mender, model, chance.choice(["calm_lap", "calm_lap", "mend"]))
        if step < 0.4:
            told = self.same_call(mender, model, "write_lap", chance.choice(houses))
            for _ in range(chance.choice([1, 3, 4, 5])):
                told = self.same_call(mender, model, "carry", len(model.laps) - 1)
            return told
        name = chance.choice(CALLS)
        at = chance.choice([*range(len(model.laps)), -1, len(model.laps)])
        if name == "write_lap":
            at = chance.choice([*houses, *houses, chance.randrange(model.size)])
        return self.same_call(mender, model, name, at)

    def same_call(self, mender, model, name, *args):
        found = outcome(getattr(mender, name), *args)
        self.assertEqual(found, outcome(getattr(model, name), *args))
        return found[0] if isinstance(found, tuple) else name

    def same_change(self, chance, mender, model, houses):
        """Change both nets alike, and not as point 73 allows it."""
        house = chance.choice(houses)
        leavers = [h for h in houses if model.may_go(h)]
        free = [place for place in range(model.size) if place not in houses]
        if leavers and len(houses) > 1 and chance.random() < 0.5:
            for net in (mender.net, model):
                net.take_out(leavers[0])
            return "take_out"
        if free and chance.random() < 0.5:
            place, host = chance.choice(free), chance.choice(houses)
            for net in (mender.net, model):
                net.admit(place, host)
            return "admit"
        target = chance.choice(houses)
        for net in (mender.net, model):
            net.hold(house, target)
        return "hold"
