"""Points 51 to 55 and 58: pieces that are clear towards a house."""

import random

from net_case import (
    CALLS,
    CALLS_WITH_ADMIT,
    NetCase,
    mixed_nets,
    random_call,
    ring_nexts,
    true_net,
    wild_net,
)
from piece_model import Model
from ringlaps.calm import settle
from ringlaps.clear import clear_fault, clear_towards, distances_to, is_clear, judge_clear
from ringlaps.errors import NoHouse
from ringlaps.net import Net
from ringlaps.pieces import on_ring, piece_of, turns_of, way_length
from ringlaps.sayings import piece_is_true

# A ring of one turn with three tails, and a house alone. The ways of 6 and 2 are 9 and 3 long.
NEXTS = {5: 7, 7: 5, 6: 5, 2: 5, 8: 7, 0: 0}


def clear_net(chance, size):
    """Return a net with a house of a ring that has let go, and this house."""
    while True:
        net = true_net(chance, size)
        rings = [house for house in net.houses() if on_ring(net, house)]
        if rings:
            z = chance.choice(rings)
            net.hold(z, z)
            return net, z


class ClearCase(NetCase):
    def check_fault(self, net, z, fault):
        self.check_tells(clear_fault, net, z, result=fault)
        self.check_tells(is_clear, net, z, result=fault is None)


class DistancesTest(ClearCase):
    def test_example(self):
        net = Net(10, {1: 1, 4: 1, 7: 4})
        self.check_tells(distances_to, net, 1, result={1: 0, 4: 7, 7: 14})

    def test_piece_with_tails_and_another_ring(self):
        net = Net(10, NEXTS)
        self.check_tells(distances_to, net, 5, result={2: 3, 5: 0, 6: 9, 7: 8, 8: 17})
        self.check_tells(distances_to, net, 7, result={2: 5, 5: 2, 6: 11, 7: 0, 8: 9})
        self.check_tells(distances_to, net, 0, result={0: 0})

    def test_house_on_a_tail(self):
        net = Net(10, {1: 1, 4: 1, 7: 4, 6: 7, 9: 4})
        self.check_tells(distances_to, net, 4, result={4: 0, 6: 8, 7: 7, 9: 5})
        self.check_tells(distances_to, net, 9, result={9: 0})

    def test_ring_of_several_turns(self):
        net = Net(10, {1: 7, 4: 1, 7: 4, 8: 4})
        self.check_tells(distances_to, net, 7, result={1: 6, 4: 13, 7: 0, 8: 19})

    def test_places_without_a_house(self):
        for function in (distances_to, clear_fault, is_clear, clear_towards):
            for place in (1, 3, 9, 10, -1):
                self.check_fails(function, Net(10, NEXTS), place, error=NoHouse(place))
            self.check_fails(function, Net(10, {}), 0, error=NoHouse(0))


class ClearFaultTest(ClearCase):
    def test_example(self):
        net = Net(10, {1: 7, 4: 1, 7: 4}, befores={4: 7}, letters=[("answer", 7, 4, 7)])
        self.check_fault(net, 7, ("turns", 2))
        net.hold(1, 1)
        self.check_fault(net, 7, ("off ring", 7))
        self.check_fault(net, 1, None)

    def test_true_pieces_of_one_turn(self):
        net = Net(10, NEXTS, befores={5: 6, 7: 8}, letters=[("tell", 5, 2), ("ask", 0, 5)])
        for z, fault in [(5, None), (7, None), (0, None), (6, ("off ring", 6)), (2, ("off ring", 2))]:
            self.check_fault(net, z, fault)

    def test_off_ring_comes_first(self):
        net = Net(10, {1: 7, 4: 1, 7: 4, 8: 4, 0: 0}, befores={8: 0}, letters=[("tell", 8, 1)])
        self.check_fault(net, 8, ("off ring", 8))
        net = Net(10, NEXTS, befores={6: 0, 2: 7})
        self.check_fault(net, 6, ("off ring", 6))

    def test_turns_come_before_sayings(self):
        net = Net(10, {1: 7, 4: 1, 7: 4, 0: 0}, befores={1: 0, 7: 4})
        self.check_fault(net, 1, ("turns", 2))
        net = Net(10, ring_nexts([9, 7, 4, 1]), letters=[("tell", 9, 7)])
        self.check_fault(net, 4, ("turns", 3))

    def test_astray(self):
        # (0, 6, 6) and (2, 0, 8) each name one house of the piece, as second and as first one.
        net = Net(10, NEXTS, befores={6: 0})
        self.check_fault(net, 5, ("astray", 0, 6, 6))
        self.check_fault(net, 7, ("astray", 0, 6, 6))
        self.check_fault(net, 0, ("astray", 0, 6, 6))
        net = Net(10, NEXTS, letters=[("tell", 0, 2)])
        self.check_fault(net, 5, ("astray", 2, 0, 8))
        self.check_fault(net, 0, ("astray", 2, 0, 8))
        net = Net(10, NEXTS, letters=[("answer", 5, 0, 7)])
        self.check_fault(net, 5, ("astray", 7, 0, 3))
        net = Net(10, NEXTS, letters=[("answer", 0, 5, 7), ("ask", 0, 5)])
        self.check_fault(net, 5, None)

    def test_late_and_early_enough(self):
        # The way from 2 to 5 is 3 long: the saying (2, 4, 2) comes just too early for 5, and
        # (2, 6, 4) just late enough; to 7 it is 5 long, which is too long for both.
        nexts = {**NEXTS, 4: 5}
        net = Net(10, nexts, befores={4: 2})
        self.check_fault(net, 5, ("late", 2, 4, 2))
        self.check_fault(net, 7, ("late", 2, 4, 2))
        net = Net(10, nexts, befores={6: 2})
        self.check_fault(net, 5, None)
        self.check_fault(net, 7, ("late", 2, 6, 4))
        net = Net(10, nexts, letters=[("answer", 5, 8, 2)])
        self.check_fault(net, 5, None)
        self.check_fault(net, 7, None)

    def test_saying_of_the_house_itself_is_never_late(self):
        net = Net(10, {**NEXTS, 4: 5, 9: 5}, befores={6: 5, 8: 5, 4: 5, 9: 5})
        self.check_fault(net, 5, None)
        self.check_fault(net, 7, ("late", 5, 6, 1))

    def test_saying_that_is_true_is_never_late(self):
        # (8, 7, 9) is true though 8 is 17 from 5, and (2, 5, 3) though 2 is 5 from 7.
        net = Net(10, NEXTS, befores={5: 2, 7: 8}, letters=[("answer", 5, 8, 2)])
        self.check_tells(piece_is_true, net, 5, result=False)
        self.check_fault(net, 5, None)
        self.check_fault(net, 7, None)
        net.lose(0)
        self.check_tells(piece_is_true, net, 5, result=True)
        self.check_fault(net, 5, None)
        self.check_fault(net, 7, None)

    def test_first_saying_that_spoils_decides(self):
        befores = {2: 0, 6: 7, 8: 6}
        letters = [("tell", 0, 8), ("tell", 6, 5)]
        net = Net(10, NEXTS, befores=befores, letters=letters)
        self.check_fault(net, 5, ("astray", 0, 2, 2))
        net.set_before(2, None)
        self.check_fault(net, 5, ("late", 6, 8, 2))
        self.check_fault(net, 7, ("late", 6, 8, 2))
        net.set_before(8, None)
        self.check_fault(net, 5, ("astray", 8, 0, 2))
        net.lose(0)
        self.check_fault(net, 5, None)
        self.check_fault(net, 7, ("late", 5, 6, 1))

    def test_sayings_of_other_pieces_do_not_count(self):
        nexts = {**NEXTS, 1: 0, 3: 0}
        net = Net(10, nexts, befores={3: 1})
        self.check_fault(net, 0, ("late", 1, 3, 2))
        self.check_fault(net, 5, None)

    def test_nexts_of_other_turns(self):
        # A tail that goes round more than once is longer than anything that is said of it.
        net = Net(10, {3: 3, 2: 3, 1: 0, 0: 9, 9: 8, 8: 3}, letters=[("tell", 2, 1)])
        self.check_tells(way_length, net, 1, 3, result=32)
        self.check_fault(net, 3, ("late", 1, 2, 1))


class ClearTowardsTest(ClearCase):
    def test_all_houses_of_a_ring(self):
        net = Net(10, NEXTS)
        for house in (2, 5, 6, 7, 8):
            self.check_tells(clear_towards, net, house, result=[5, 7])
        self.check_tells(clear_towards, net, 0, result=[0])
        self.check_tells(clear_towards, Net(10, ring_nexts([7, 9, 2])), 9, result=[2, 7, 9])

    def test_some_houses_of_a_ring(self):
        net = Net(10, NEXTS, befores={6: 2})
        for house in (2, 5, 6, 7, 8):
            self.check_tells(clear_towards, net, house, result=[5])
        net = Net(10, {1: 4, 4: 7, 7: 9, 9: 1, 8: 9}, befores={8: 4})
        self.check_tells(clear_towards, net, 8, result=[4, 7])

    def test_no_house(self):
        net = Net(10, {1: 7, 4: 1, 7: 4, 0: 0}, befores={})
        self.check_tells(clear_towards, net, 4, result=[])
        net = Net(10, NEXTS, befores={0: 2})
        self.check_tells(clear_towards, net, 5, result=[])
        self.check_tells(clear_towards, net, 0, result=[])
        net = Net(10, {**NEXTS, 4: 5}, befores={4: 2})
        self.check_tells(clear_towards, net, 8, result=[])
        self.check_tells(clear_towards, net, 0, result=[0])

    def test_against_the_model(self):
        chance = random.Random(54)
        faults = {"off ring": 0, "turns": 0, "astray": 0, "late": 0, None: 0}
        for net in mixed_nets(chance, 400):
            model = Model(net)
            for house in net.houses():
                fault = model.clear_fault(house)
                faults[fault and fault[0]] += 1
                self.check_fault(net, house, fault)
                self.check_tells(clear_towards, net, house, result=model.clear_towards(house))
                told = {u: model.way_length(u, house) for u in model.piece(house)}
                told = {u: length for u, length in told.items() if length is not None}
                self.check_tells(distances_to, net, house, result=told)
                self.check_tells(judge_clear, net, house, told, result=fault is None)
        self.assertGreater(min(faults.values()), 20)


class JudgeClearTest(ClearCase):
    def setUp(self):
        self.net = Net(10, NEXTS, befores={6: 2})
        self.right = {2: 3, 5: 0, 6: 9, 7: 8, 8: 17}

    def check(self, z, distances, result):
        self.check_tells(judge_clear, self.net, z, distances, result=result)

    def test_right_dict_in_any_order(self):
        self.check(5, self.right, True)
        self.check(5, dict(reversed(self.right.items())), True)
        self.check(0, {0: 0}, True)

    def test_one_length_changed(self):
        for house, length in self.right.items():
            for other in (length - 1, length + 1, length + 10, -length - 1):
                self.check(5, {**self.right, house: other}, False)

    def test_one_key_missing_or_too_many(self):
        for house in self.right:
            rest = {other: length for other, length in self.right.items() if other != house}
            self.check(5, rest, False)
        for place in (0, 1, 3, 9, 10, -1):
            self.check(5, {**self.right, place: 0}, False)
            self.check(5, {**self.right, place: 10}, False)

    def test_empty_dict(self):
        for z in (5, 0, 1):
            self.check(z, {}, False)
        self.check_tells(judge_clear, Net(10, {}), 0, {}, result=False)

    def test_place_that_is_no_house(self):
        for z in (1, 3, 9, 10, -1):
            self.check(z, {z: 0}, False)
            self.check(z, self.right, False)

    def test_piece_that_is_not_clear(self):
        self.check(7, {2: 5, 5: 2, 6: 11, 7: 0, 8: 9}, False)
        self.check(6, {6: 0}, False)
        net = Net(10, ring_nexts([1, 7, 4]))
        self.check_tells(judge_clear, net, 1, {1: 0, 4: 7, 7: 14}, result=False)

    def test_distances_to_another_house(self):
        self.check(5, {2: 5, 5: 2, 6: 11, 7: 0, 8: 9}, False)


class StaysClearTest(ClearCase):
    def test_through_letters_and_new_houses(self):
        chance = random.Random(58)
        changes = 0
        for _ in range(100):
            net, z = clear_net(chance, chance.choice([3, 8, 8, 11]))
            self.check_fault(net, z, None)
            for _ in range(60):
                earlier, nexts = distances_to(net, z), net.nexts()
                random_call(chance, net, CALLS_WITH_ADMIT)
                self.check_fault(net, z, None)
                now = distances_to(net, z)
                self.assertEqual([u for u in earlier if now[u] > earlier[u]], [])
                changes += any(net.next_of(u) != following for u, following in nexts.items())
        self.assertGreater(changes, 50)

    def test_wild_pieces_that_are_clear(self):
        chance = random.Random(59)
        untrue = 0
        for _ in range(1500):
            net = wild_net(chance, chance.choice([5, 8]))
            z = chance.choice(net.houses())
            if is_clear(net, z) and not piece_is_true(net, z):
                untrue += 1
                for _ in range(25):
                    random_call(chance, net, CALLS_WITH_ADMIT)
                    self.check_fault(net, z, None)
                self.check_settles(net, z)
        self.assertGreater(untrue, 40)

    def check_settles(self, net, z):
        """Check that the piece settles to a ring of one turn, and that it is true then."""
        piece = piece_of(net, z)
        settle(net)
        plain = ring_nexts(piece)
        self.assertEqual({house: net.next_of(house) for house in piece}, plain)
        self.check_tells(piece_of, net, z, result=piece)
        self.check_tells(piece_is_true, net, z, result=True)
        self.check_tells(clear_towards, net, z, result=piece)

    def test_settles_to_a_plain_ring_whatever_befores_and_letters_there_are(self):
        chance = random.Random(57)
        for _ in range(80):
            net, z = clear_net(chance, chance.choice([3, 5, 8, 11]))
            for _ in range(chance.randrange(20)):
                random_call(chance, net)
            self.check_settles(net, z)
            for _ in range(20):
                random_call(chance, net)
                self.check_tells(piece_is_true, net, z, result=True)

    def test_lost_and_repeated_letters(self):
        letters = [("answer", 7, 4, 7), ("tell", 7, 1), ("answer", 4, 1, 4), ("tell", 4, 7)]
        net = Net(10, {1: 1, 4: 1, 7: 4}, befores={4: 7}, letters=letters)
        self.check_fault(net, 1, None)
        for at in (0, 1, 2, 3, 1, 2):
            net.repeat(at)
            self.check_fault(net, 1, None)
        while net.letters():
            net.lose(len(net.letters()) // 2)
            self.check_fault(net, 1, None)
        net.admit(0, 7)
        self.check_fault(net, 1, None)
        self.check_tells(distances_to, net, 1, result={0: 21, 1: 0, 4: 7, 7: 14})

    def test_true_piece_of_one_turn_is_clear_towards_its_ring(self):
        chance = random.Random(56)
        for _ in range(60):
            net = true_net(chance, chance.choice([3, 5, 8]))
            for house in net.houses():
                ring = [u for u in piece_of(net, house) if on_ring(net, u)]
                result = ring if turns_of(net, house) == 1 else []
                self.check_tells(clear_towards, net, house, result=result)

    def test_piece_of_several_turns_stays_so_by_letters(self):
        chance = random.Random(55)
        net = Net(10, ring_nexts([1, 7, 4]))
        for _ in range(200):
            random_call(chance, net, CALLS)
            self.check_tells(turns_of, net, 4, result=2)
        settle(net)
        self.assertEqual(net.nexts(), {1: 7, 4: 1, 7: 4})
