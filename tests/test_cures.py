"""Points 51, 56, 57 and 59 to 61: letting go, newcomers, meetings, healing and uniting."""

import random

from net_case import CALLS_WITH_ADMIT, NetCase, mixed_nets, random_call, ring_nexts, true_net, wild_net
from piece_model import Model
from ringlaps.calm import settle
from ringlaps.clear import clear_fault, clear_towards, distances_to, is_clear
from ringlaps.cures import heal, healing_targets, let_go, meet, take_newcomer, unite
from ringlaps.ends import is_plain
from ringlaps.errors import NoHouse, NotBetween, OffCircle, SamePiece, TakenPlace, Untold
from ringlaps.net import Net
from ringlaps.pieces import on_ring, piece_of, pieces, turns_of
from ringlaps.sayings import piece_is_true

GREAT = 1000000000


def ring_net(**more):
    """Return a net of a ring of two turns with a tail."""
    return Net(10, {1: 7, 4: 1, 7: 4, 8: 4}, **more)


class CureCase(NetCase):
    def check_cure(self, function, net, *args, result, nexts):
        """Check what a cure returns, and that only these nexts differ after it."""
        befores, letters = net.befores(), net.letters()
        expected = {**net.nexts(), **nexts}
        found = function(net, *args)
        self.check_same(found, result)
        self.assertEqual(net.nexts(), expected)
        self.assertEqual((net.befores(), net.letters()), (befores, letters))
        return found

    def true_rings(self, chance, count, sizes=(3, 5, 8, 11)):
        """Return true nets with a house of a ring of each, in which letters are under way."""
        found = []
        while len(found) < count:
            net = true_net(chance, chance.choice(sizes))
            rings = [house for house in net.houses() if on_ring(net, house)]
            found.append((net, chance.choice(rings)))
        return found


class LetGoTest(CureCase):
    def test_old_next(self):
        letters = [("tell", 7, 1), ("ask", 4, 8), ("answer", 7, 4, 8)]
        net = ring_net(befores={4: 8, 1: 4}, letters=letters)
        self.check_cure(let_go, net, 1, result=7, nexts={1: 1})
        self.check_cure(let_go, net, 1, result=1, nexts={})
        self.check_cure(let_go, net, 8, result=4, nexts={8: 8})
        self.check_cure(let_go, Net(10, {3: 3}), 3, result=3, nexts={})

    def test_places_without_a_house(self):
        for place in (0, 2, 9, 10, -1):
            self.check_fails(let_go, ring_net(), place, error=NoHouse(place))
        self.check_fails(let_go, Net(10, {}), 0, error=NoHouse(0))

    def test_ring_of_several_turns_is_repaired(self):
        for order in ([1, 7, 4], [9, 7, 4, 1], [2, 8, 5, 9, 4, 7]):
            for house in order:
                net = Net(10, ring_nexts(order))
                settle(net)
                self.assertEqual(net.nexts(), Net(10, ring_nexts(order)).nexts())
                let_go(net, house)
                self.check_tells(is_clear, net, house, result=True)
                settle(net)
                self.check_tells(is_plain, net, result=True)

    def test_piece_is_clear_towards_a_house_of_the_ring_that_lets_go(self):
        chance = random.Random(56)
        for net, house in self.true_rings(chance, 120):
            let_go(net, house)
            self.check_tells(is_clear, net, house, result=True)
            for _ in range(10):
                random_call(chance, net, CALLS_WITH_ADMIT)
            let_go(net, house)
            self.check_tells(is_clear, net, house, result=True)

    def test_house_towards_which_a_piece_is_clear_lets_go(self):
        chance = random.Random(57)
        untrue = 0
        for _ in range(600):
            net = wild_net(chance, chance.choice([5, 8]))
            for house in net.houses():
                if is_clear(net, house):
                    copied = net.clone()
                    untrue += not piece_is_true(net, house)
                    let_go(copied, house)
                    self.check_tells(is_clear, copied, house, result=True)
        self.assertGreater(untrue, 40)


class NewcomerTest(CureCase):
    def test_newcomer(self):
        letters = [("tell", 7, 1)]
        net = ring_net(befores={1: 4}, letters=letters)
        self.check_cure(take_newcomer, net, 1, 5, result=7, nexts={1: 5, 5: 5})
        self.assertIsNone(net.before_of(5))
        net = Net(10, {3: 3})
        self.check_cure(take_newcomer, net, 3, 0, result=3, nexts={0: 0, 3: 0})
        self.check_cure(take_newcomer, net, 3, 9, result=0, nexts={3: 9, 9: 9})

    def test_each_check(self):
        net = ring_net()
        for house in (0, 2, 9, 10, -1):
            self.check_fails(take_newcomer, net, house, 5, error=NoHouse(house))
        for place in (-1, 10, 11, 14, -6, GREAT):
            self.check_fails(take_newcomer, net, 1, place, error=OffCircle(place))
        for house, place in [(7, 8), (4, 7), (4, 8), (7, 1)]:
            self.check_fails(take_newcomer, net, house, place, error=TakenPlace(place))
        for house, place in [(1, 9), (1, 0), (4, 2), (4, 3), (7, 5), (8, 6), (7, 6)]:
            self.check_fails(take_newcomer, net, house, place, error=NotBetween(place))
        self.check_fails(take_newcomer, Net(10, {}), 0, 0, error=NoHouse(0))

    def test_first_check_that_fails_decides(self):
        net = ring_net()
        # No house and off the circle, no house and taken, no house and a place that is free.
        for house, place in [(2, -1), (2, 10), (2, 4), (-1, 10), (-1, -1), (12, 5), (2, 2)]:
            self.check_fails(take_newcomer, net, house, place, error=NoHouse(house))
        # Off the circle, and at a whole turn from a house and from a place between.
        for place in (11, 14, 17, -6, 15, 19):
            self.check_fails(take_newcomer, net, 1, place, error=OffCircle(place))
        # Taken by the house itself, by its next, and by others that do not lie between.
        for house, place in [(1, 1), (1, 7), (1, 8), (4, 4), (4, 1), (8, 7)]:
            self.check_fails(take_newcomer, net, house, place, error=TakenPlace(place))

    def test_joined_piece_is_clear_towards_the_newcomer(self):
        chance = random.Random(58)
        joined = 0
        for net, house in self.true_rings(chance, 150):
            following = net.next_of(house)
            model = Model(net)
            free = [p for p in range(net.size) if model.is_between(house, p, following)]
            free = [place for place in free if place not in net.houses()]
            if free:
                place = chance.choice(free)
                nexts = {house: place, place: place}
                self.check_cure(take_newcomer, net, house, place, result=following, nexts=nexts)
                self.check_tells(is_clear, net, place, result=True)
                self.assertIn(place, piece_of(net, house))
                joined += 1
        self.assertGreater(joined, 80)


class MeetTest(CureCase):
    def test_meeting(self):
        nexts = {1: 7, 7: 1, 3: 5, 5: 3, 9: 3}
        net = Net(10, nexts, befores={3: 9}, letters=[("tell", 5, 3)])
        self.check_cure(meet, net, 1, 5, result=7, nexts={1: 5})
        self.check_tells(pieces, net, result=[[1, 3, 5, 7, 9]])
        net = Net(10, {4: 4, 8: 8})
        self.check_cure(meet, net, 8, 4, result=8, nexts={8: 4})

    def test_each_check(self):
        net = Net(10, {1: 7, 7: 1, 3: 5, 5: 3, 9: 3})
        for place in (0, 2, 4, 8, 10, -1):
            self.check_fails(meet, net, place, 3, error=NoHouse(place))
            self.check_fails(meet, net, 1, place, error=NoHouse(place))
        for house, other in [(1, 7), (3, 9), (9, 5), (5, 9)]:
            self.check_fails(meet, net, house, other, error=SamePiece(other))
        for house, other in [(1, 9), (7, 3), (7, 5), (3, 1), (3, 7), (9, 7)]:
            self.check_fails(meet, net, house, other, error=NotBetween(other))
        self.check_fails(meet, Net(10, {}), 0, 0, error=NoHouse(0))

    def test_first_check_that_fails_decides(self):
        net = Net(10, {1: 7, 7: 1, 3: 5, 5: 3, 9: 3})
        self.check_fails(meet, net, 2, 4, error=NoHouse(2))
        self.check_fails(meet, net, 4, 2, error=NoHouse(4))
        self.check_fails(meet, net, 4, 4, error=NoHouse(4))
        # The house itself, its next, and houses of its piece that do not lie between.
        for house, other in [(1, 1), (1, 7), (3, 3), (3, 5), (3, 9), (9, 9), (9, 3)]:
            self.check_fails(meet, net, house, other, error=SamePiece(other))

    def test_joined_piece_is_clear_towards_the_other(self):
        chance = random.Random(59)
        joined = 0
        for net, house in self.true_rings(chance, 400, sizes=(8, 11)):
            model = Model(net)
            following = net.next_of(house)
            others = [u for u in net.houses() if model.is_between(house, u, following)]
            others = [u for u in others if u in clear_towards(net, u) and u not in model.piece(house)]
            if others:
                other = chance.choice(others)
                self.check_cure(meet, net, house, other, result=following, nexts={house: other})
                self.check_tells(is_clear, net, other, result=True)
                self.assertIn(other, piece_of(net, house))
                joined += 1
        self.assertGreater(joined, 40)


class HealTest(CureCase):
    def test_example(self):
        letters = [("answer", 7, 4, 7)]
        net = Net(10, {1: 7, 4: 1, 7: 4}, befores={4: 7}, letters=letters)
        self.check_tells(clear_fault, net, 7, result=("turns", 2))
        self.check_cure(heal, net, result=[1], nexts={1: 1})
        self.check_tells(clear_fault, net, 7, result=("off ring", 7))
        self.check_tells(clear_fault, net, 1, result=None)
        self.check_tells(distances_to, net, 1, result={1: 0, 4: 7, 7: 14})
        self.assertEqual(settle(net), 3)
        self.assertEqual(net.nexts(), {1: 4, 4: 7, 7: 1})

    def test_nothing_to_heal(self):
        for nexts in ({}, {3: 3}, ring_nexts([1, 4, 7]), ring_nexts([1, 4], [2, 8]), {1: 4, 4: 1, 7: 4}):
            self.check_cure(heal, Net(10, nexts), result=[], nexts={})

    def test_several_pieces(self):
        # Pieces with the least houses 0 (one turn), 1 (three), 2 (two, 2 on a tail), 6 (one).
        nexts = {**ring_nexts([0, 10], [1, 19, 13, 7], [5, 15, 9], [6]), 2: 9, 11: 10}
        net = Net(20, nexts)
        self.check_tells(pieces, net, result=[[0, 10, 11], [1, 7, 13, 19], [2, 5, 9, 15], [6]])
        self.check_cure(heal, net, result=[1, 5], nexts={1: 1, 5: 5})
        self.check_cure(heal, net, result=[], nexts={})

    def test_order_is_that_of_the_pieces_not_of_the_houses(self):
        nexts = {**ring_nexts([12, 16, 14], [3, 9, 6]), 0: 12}
        self.check_cure(heal, Net(20, nexts), result=[12, 3], nexts={3: 3, 12: 12})

    def test_untold_piece_behind_pieces_that_could_be_healed(self):
        nexts = {**ring_nexts([1, 7, 4]), 2: 9, 9: 5, 5: 9}
        for befores, place in [({5: 2}, 2), ({2: 5}, None), ({2: 9}, None), ({9: 4}, 1), ({7: 4}, 1)]:
            net = Net(10, nexts, befores=befores)
            if place is None:
                self.check_cure(heal, net, result=[1], nexts={1: 1})
            else:
                for function in (heal, unite):
                    self.check_fails(function, net, error=Untold(place))

    def test_untold_with_the_least_house_of_the_first_such_piece(self):
        nexts = {**ring_nexts([1, 7, 4], [3, 9, 6]), 0: 3, 8: 8}
        net = Net(10, nexts, befores={4: 1, 3: 6})
        self.check_tells(pieces, net, result=[[0, 3, 6, 9], [1, 4, 7], [8]])
        for befores, place in [({7: 4, 9: 3, 6: 9}, 1), ({6: 3, 7: 4}, 0), ({6: 3}, 0), ({8: 4}, 1)]:
            net = Net(10, nexts, befores=befores)
            self.check_fails(heal, net, error=Untold(place))
            self.check_fails(unite, net, error=Untold(place))

    def test_piece_that_is_clear_but_not_true_is_left(self):
        nexts = {1: 1, 4: 1, 7: 4, 2: 9, 9: 5, 5: 2}
        net = Net(10, nexts, befores={4: 7, 7: 1}, letters=[("tell", 7, 1)])
        self.check_tells(piece_is_true, net, 1, result=False)
        self.check_tells(clear_towards, net, 1, result=[1])
        self.check_cure(heal, net, result=[2], nexts={2: 2})

    def test_against_the_model(self):
        chance = random.Random(60)
        healed = untold = 0
        for net in mixed_nets(chance, 400):
            model = Model(net)
            told = model.meaning()
            if None in told:
                place = model.pieces()[told.index(None)][0]
                self.check_fails(heal, net, error=Untold(place))
                untold += 1
            else:
                patients = [p[0] for p in model.pieces() if model.turns(p[0]) > 1]
                result = [model.ring(house)[0] for house in patients]
                nexts = {house: house for house in result}
                self.check_cure(heal, net, result=result, nexts=nexts)
                healed += len(result)
                for piece in pieces(net):
                    self.assertTrue(clear_towards(net, piece[0]))
        self.assertGreater(min(healed, untold), 15)


class HealingTargetsTest(CureCase):
    def test_example(self):
        self.check_tells(healing_targets, ring_net(), 1, result=[1, 4])
        self.check_tells(healing_targets, ring_net(), 8, result=[])

    def test_ring_of_two_turns(self):
        # From 4 to 7 is 3, and the way from 7 to 4 is 7 long; from 8, the way is 6 long.
        self.check_tells(healing_targets, ring_net(), 4, result=[4, 7, 8])
        self.check_tells(healing_targets, ring_net(), 7, result=[1, 7])
        self.check_tells(healing_targets, Net(10, ring_nexts([9, 7, 4, 1])), 9, result=[1, 9])

    def test_ring_of_one_turn(self):
        net = Net(10, {1: 4, 4: 7, 7: 1, 2: 4, 9: 7})
        self.check_tells(healing_targets, net, 1, result=[1, 2, 4, 7])
        self.check_tells(healing_targets, net, 4, result=[1, 2, 4, 7])
        self.check_tells(healing_targets, net, 7, result=[1, 2, 4, 7, 9])
        for house in (2, 9):
            self.check_tells(healing_targets, net, house, result=[])

    def test_houses_of_other_pieces_are_no_targets(self):
        net = Net(10, {1: 1, 4: 1, 6: 6, 8: 6})
        self.check_tells(healing_targets, net, 1, result=[1, 4])
        self.check_tells(healing_targets, net, 6, result=[6, 8])
        self.check_tells(healing_targets, net, 8, result=[])

    def test_great_circle(self):
        net = Net(GREAT, ring_nexts(list(range(40, 0, -1))))
        self.check_tells(healing_targets, net, 17, result=[17, 18])

    def test_places_without_a_house(self):
        for place in (0, 2, 9, 10, -1):
            self.check_fails(healing_targets, ring_net(), place, error=NoHouse(place))
        self.check_fails(healing_targets, Net(10, {}), 0, error=NoHouse(0))

    def check_targets(self, net, house):
        """Check that exactly the healing targets make the piece clear; count those that do not."""
        targets = healing_targets(net, house)
        piece = piece_of(net, house)
        for target in piece:
            changed = net.clone()
            changed.hold(house, target)
            self.check_tells(is_clear, changed, house, result=target in targets)
        return len(piece) - len(targets)

    def test_targets_of_true_pieces(self):
        chance = random.Random(61)
        others = 0
        for net, house in self.true_rings(chance, 150):
            others += self.check_targets(net, house)
        self.assertGreater(others, 50)

    def test_targets_of_pieces_that_are_clear_only(self):
        chance = random.Random(62)
        untrue = 0
        for _ in range(600):
            net = wild_net(chance, chance.choice([5, 8]))
            for house in net.houses():
                if is_clear(net, house) and not piece_is_true(net, house):
                    self.check_targets(net, house)
                    untrue += 1
        self.assertGreater(untrue, 40)

    def test_one_turn_after_the_change(self):
        chance = random.Random(63)
        for net in mixed_nets(chance, 100):
            for house in net.houses():
                result = []
                for target in piece_of(net, house) if on_ring(net, house) else []:
                    changed = net.clone()
                    changed.hold(house, target)
                    if on_ring(changed, house) and turns_of(changed, house) == 1:
                        result.append(target)
                self.check_tells(healing_targets, net, house, result=result)


class UniteTest(CureCase):
    def check_united(self, net, changes):
        houses, letters = net.houses(), net.letters()
        found = unite(net)
        self.check_same(found, changes)
        self.assertEqual(net.houses(), houses)
        self.assertEqual(net.letters(), letters)
        self.check_tells(is_plain, net, result=True)
        for house in houses:
            self.check_tells(piece_is_true, net, house, result=True)
        settled = net.snapshot()
        self.assertEqual(unite(net), [])
        self.assertEqual(net.snapshot(), settled)

    def test_empty_net_and_one_house(self):
        self.check_united(Net(10, {}), [])
        self.check_united(Net(10, {3: 3}), [])

    def test_one_piece(self):
        self.check_united(Net(10, {1: 1, 4: 1, 7: 4}), [])
        self.check_united(Net(10, {house: 0 for house in range(10)}), [])
        self.check_united(ring_net(), [(1, 1)])
        self.check_united(Net(10, ring_nexts([9, 7, 4, 1])), [(1, 1)])

    def test_two_and_several_pieces(self):
        self.check_united(Net(10, {4: 4, 8: 8}), [(4, 8)])
        self.check_united(Net(10, ring_nexts([1, 7], [3, 5])), [(1, 3)])
        self.check_united(Net(10, ring_nexts([1, 3], [5, 9])), [(3, 5)])
        self.check_united(Net(10, {h: h for h in range(4)}), [(0, 1), (1, 2), (2, 3)])
        self.check_united(Net(10, ring_nexts([0, 9], [4], [2, 6])), [(0, 2), (2, 4)])

    def test_pieces_of_several_turns(self):
        nexts = {**ring_nexts([1, 19, 13, 7], [5, 15, 9], [6]), 2: 9}
        self.check_united(Net(20, nexts), [(1, 1), (5, 5), (1, 2), (5, 6)])

    def test_settled_before_the_first_meeting(self):
        # The least house of the second piece comes to lie behind 3, not behind 1 any more.
        self.check_united(Net(10, {1: 1, 3: 1, 5: 5}), [(3, 5)])

    def test_befores_and_letters(self):
        letters = [("answer", 7, 4, 7), ("tell", 7, 1), ("ask", 5, 6)]
        net = Net(10, {1: 7, 4: 1, 7: 4, 5: 6, 6: 5}, befores={4: 7, 6: 5}, letters=letters)
        self.check_united(net, [(1, 1), (4, 5)])

    def test_many_houses(self):
        places = list(range(0, GREAT, GREAT // 40))
        net = Net(GREAT, {place: place for place in places})
        self.check_united(net, list(zip(places, places[1:])))
        self.check_united(Net(GREAT, ring_nexts(places[::-1])), [(0, 0)])

    def test_random_nets(self):
        chance = random.Random(64)
        meetings = 0
        for net in mixed_nets(chance, 300):
            model = Model(net)
            told = model.meaning()
            if None in told:
                place = model.pieces()[told.index(None)][0]
                self.check_fails(unite, net, error=Untold(place))
                continue
            changes = heal(net.clone())
            changes = [(house, house) for house in changes]
            copied = net.clone()
            heal(copied)
            settle(copied)
            while len(pieces(copied)) > 1:
                first, second = pieces(copied)[:2]
                model = Model(copied)
                hosts = [u for u in first if model.is_between(u, second[0], model.nexts[u])]
                self.assertEqual(len(hosts), 1)
                meet(copied, hosts[0], second[0])
                settle(copied)
                changes.append((hosts[0], second[0]))
                meetings += 1
            united = net.clone()
            self.check_united(net, changes)
            unite(united)
            self.assertEqual(united.snapshot(), copied.snapshot())
            lapped = sum(turns > 1 for turns, _ in told)
            self.assertEqual(len(changes), lapped + max(0, len(told) - 1))
        self.assertGreater(meetings, 50)
