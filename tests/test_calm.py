"""Points 40 to 42: calm rounds."""

import random

from net_case import NetCase, all_nexts, mixed_nets, ring_nexts
from piece_model import Model
from ringlaps.calm import calm_round, each_held_once, settle
from ringlaps.net import Net


def calm_model(net):
    """Return the nexts and befores after a calm round, and the houses whose next changes."""
    model = Model(net)
    nexts, befores = dict(model.nexts), dict(model.befores)
    for house in sorted(nexts):
        following = nexts[house]
        known = befores.get(following)
        if known is None or model.is_between(known, house, following):
            befores[following] = house
    changed = []
    for house in sorted(nexts):
        following = nexts[house]
        if model.is_between(house, befores[following], following):
            nexts[house] = befores[following]
            changed.append(house)
    return nexts, befores, changed


class CalmCase(NetCase):
    def check_round(self, net, changed, *, nexts, befores):
        """Check that a calm round changes what is given and nothing else."""
        letters = net.letters()
        self.assertEqual(calm_round(net), changed)
        self.assertEqual(net.nexts(), nexts)
        self.assertEqual(net.befores(), befores)
        self.assertEqual(net.letters(), letters)

    def check_settled(self, net, rounds, *, nexts):
        """Check that a net settles in so many rounds, and that it is settled then."""
        letters = net.letters()
        self.assertEqual(settle(net), rounds)
        self.assertEqual(net.nexts(), nexts)
        self.assertEqual(net.letters(), letters)
        settled = net.snapshot()
        self.assertEqual(settle(net), 0)
        self.assertEqual(calm_round(net), 0)
        self.assertEqual(net.snapshot(), settled)


class CalmRoundTest(CalmCase):
    def test_example(self):
        net = Net(10, {1: 1, 4: 1, 7: 4})
        self.check_round(net, 1, nexts={1: 4, 4: 1, 7: 4}, befores={1: 4, 4: 7})
        self.check_settled(net, 2, nexts={1: 4, 4: 7, 7: 1})

    def test_plain_ring(self):
        nexts = ring_nexts([1, 4, 7])
        self.check_round(Net(10, nexts), 0, nexts=nexts, befores={1: 7, 4: 1, 7: 4})

    def test_ring_of_several_turns(self):
        nexts = ring_nexts([9, 7, 4, 1])
        self.check_round(Net(10, nexts), 0, nexts=nexts, befores={1: 4, 4: 7, 7: 9, 9: 1})

    def test_houses_that_all_hold_one_house(self):
        net = Net(10, {house: 0 for house in range(10)})
        nexts = {house: 9 for house in range(9)}
        self.check_round(net, 9, nexts={**nexts, 9: 0}, befores={0: 9})
        nexts = {house: 8 for house in range(8)}
        self.check_round(net, 8, nexts={**nexts, 8: 9, 9: 0}, befores={0: 9, 9: 8})

    def test_empty_net_and_single_house(self):
        self.check_round(Net(10, {}), 0, nexts={}, befores={})
        self.check_round(Net(10, {3: 3}), 0, nexts={3: 3}, befores={3: 3})

    def test_house_that_is_its_own_next(self):
        # 3 tells itself first, but 5 lies between 3 and 3; 3 asks itself and hears of 5.
        self.check_round(Net(10, {3: 3, 5: 3}), 1, nexts={3: 5, 5: 3}, befores={3: 5})

    def test_all_tell_before_the_first_one_asks(self):
        # 1 hears of 5, which tells 8 after 1 has told it.
        net = Net(10, {1: 8, 5: 8, 8: 1})
        self.check_round(net, 1, nexts={1: 5, 5: 8, 8: 1}, befores={1: 8, 8: 5})

    def test_nexts_change_one_after_the_other_but_befores_do_not(self):
        # 0 and 2 hear of 4 at 6; that 2 is nearer to 4 than 0 comes out a round later only.
        net = Net(10, {0: 6, 2: 6, 4: 6, 6: 0})
        self.check_round(net, 2, nexts={0: 4, 2: 4, 4: 6, 6: 0}, befores={0: 6, 6: 4})
        self.check_round(net, 1, nexts={0: 2, 2: 4, 4: 6, 6: 0}, befores={0: 6, 4: 2, 6: 4})

    def test_letters_under_way_stay(self):
        letters = [("answer", 1, 8, 5), ("tell", 8, 5), ("ask", 8, 5), ("tell", 8, 5)]
        net = Net(10, {1: 8, 5: 8, 8: 1}, letters=letters)
        self.check_round(net, 1, nexts={1: 5, 5: 8, 8: 1}, befores={1: 8, 8: 5})
        self.assertEqual(net.letters(), letters)
        self.check_settled(net, 0, nexts={1: 5, 5: 8, 8: 1})
        self.assertEqual(net.letters(), letters)

    def test_befores_that_are_untrue(self):
        # The before of 1 is 7 though 7 does not lead there, so 4 takes 7 as its next.
        net = Net(10, {1: 4, 4: 1, 7: 7}, befores={1: 7})
        self.check_round(net, 1, nexts={1: 4, 4: 7, 7: 7}, befores={1: 7, 4: 1, 7: 7})
        net = Net(10, {1: 1, 4: 4}, befores={1: 4})
        self.check_round(net, 1, nexts={1: 4, 4: 4}, befores={1: 4, 4: 4})

    def test_before_that_is_the_house_itself(self):
        net = Net(10, {1: 4, 4: 1}, befores={1: 1, 4: 4})
        self.check_round(net, 0, nexts={1: 4, 4: 1}, befores={1: 4, 4: 1})

    def test_against_the_model(self):
        chance = random.Random(40)
        total = 0
        for net in mixed_nets(chance, 200):
            for _ in range(4):
                nexts, befores, changed = calm_model(net)
                self.check_round(net, len(changed), nexts=nexts, befores=befores)
                total += len(changed)
        self.assertGreater(total, 300)


class EachHeldOnceTest(CalmCase):
    def test_told(self):
        for nexts in ({}, {3: 3}, ring_nexts([1, 4, 7]), ring_nexts([9, 7, 4, 1]), ring_nexts([1, 2], [3])):
            self.check_tells(each_held_once, Net(10, nexts), result=True)
        for nexts in ({1: 1, 2: 1}, {1: 4, 4: 1, 7: 4}, {1: 2, 2: 2}, {1: 2, 2: 1, 3: 1, 4: 3}):
            self.check_tells(each_held_once, Net(10, nexts), result=False)

    def test_befores_and_letters_do_not_count(self):
        net = Net(10, {1: 1, 2: 1}, befores={2: 1}, letters=[("tell", 2, 1)])
        self.check_tells(each_held_once, net, result=False)
        net = Net(10, {1: 2, 2: 1}, befores={2: 2}, letters=[("tell", 2, 2)])
        self.check_tells(each_held_once, net, result=True)

    def test_all_small_nets(self):
        for nexts in all_nexts([0, 1, 3]):
            result = len(set(nexts.values())) == len(nexts)
            self.check_tells(each_held_once, Net(4, nexts), result=result)

    def test_round_that_changes_no_next(self):
        chance = random.Random(41)
        quiet = 0
        for net in mixed_nets(chance, 300):
            if calm_round(net) == 0:
                self.check_tells(each_held_once, net, result=True)
                quiet += 1
        self.assertGreater(quiet, 50)


class SettleTest(CalmCase):
    def test_number_of_rounds(self):
        self.check_settled(Net(10, {}), 0, nexts={})
        self.check_settled(Net(10, {3: 3}), 0, nexts={3: 3})
        self.check_settled(Net(10, ring_nexts([1, 4, 7])), 0, nexts=ring_nexts([1, 4, 7]))
        nexts = ring_nexts([9, 7, 4, 1])
        self.check_settled(Net(10, nexts), 0, nexts=nexts)
        self.check_settled(Net(10, {1: 7, 4: 1, 7: 4, 8: 4}), 1, nexts={1: 7, 4: 1, 7: 8, 8: 4})
        self.check_settled(Net(10, {1: 1, 4: 1, 7: 4}), 3, nexts={1: 4, 4: 7, 7: 1})

    def test_last_round_is_done_on_the_net(self):
        net = Net(10, ring_nexts([1, 4, 7]))
        self.assertEqual(settle(net), 0)
        self.assertEqual(net.befores(), {1: 7, 4: 1, 7: 4})

    def test_houses_that_all_hold_one_house(self):
        net = Net(10, {house: 0 for house in range(10)})
        self.check_settled(net, 9, nexts=ring_nexts(list(range(10))))

    def test_rounds_are_counted_and_bounded(self):
        chance = random.Random(42)
        for net in mixed_nets(chance, 200, most=8):
            houses = net.houses()
            model = Model(net)
            pairs = [(u, x) for u in houses for x in houses if model.is_between(u, x, model.nexts[u])]
            other = net.clone()
            rounds = 0
            while calm_round(other):
                rounds += 1
            self.check_settled(net, rounds, nexts=other.nexts())
            self.assertEqual(net.snapshot(), other.snapshot())
            self.assertLessEqual(rounds, len(pairs))
            self.check_tells(each_held_once, net, result=True)

    def test_many_houses_and_letters(self):
        places = list(range(0, 1000000000, 25000000))
        net = Net(1000000000, {place: 0 for place in places})
        self.check_settled(net, 39, nexts=ring_nexts(places))
        letters = [("answer", place, 0, 0) for place in places] * 5
        net = Net(1000000000, {place: 0 for place in places}, letters=letters)
        self.check_settled(net, 39, nexts=ring_nexts(places))
