"""Points 33 to 36: what a net says, and what of it is true."""

import random

from net_case import CALLS_WITH_ADMIT, NetCase, mixed_nets, random_call, ring_nexts, true_net
from piece_model import Model
from ringlaps.errors import NoHouse
from ringlaps.net import Net
from ringlaps.pieces import on_ring, pieces, turns_of
from ringlaps.sayings import first_untrue, holds_true, piece_is_true, sayings

GREAT = 1000000000


class SayingsTest(NetCase):
    def test_each_kind_in_the_told_order(self):
        letters = [
            ("answer", 1, 7, 4),
            ("ask", 7, 1),
            ("tell", 4, 7),
            ("tell", 7, 1),
            ("ask", 4, 7),
            ("answer", 7, 4, 4),
        ]
        net = Net(10, {7: 4, 4: 1, 1: 7}, befores={7: 7, 1: 4}, letters=letters)
        nexts = [(1, 7, 6), (4, 1, 7), (7, 4, 7)]
        befores = [(4, 1, 7), (7, 7, 10)]
        said = [(4, 7, 3), (7, 4, 7), (1, 7, 6), (4, 4, 10)]
        self.check_tells(sayings, net, result=nexts + befores + said)

    def test_the_same_saying_several_times(self):
        letters = [("tell", 7, 1), ("tell", 7, 1), ("answer", 4, 7, 1)]
        net = Net(10, {1: 7, 4: 7, 7: 1}, befores={7: 1}, letters=letters)
        said = [(1, 7, 6), (4, 7, 3), (7, 1, 4)] + [(1, 7, 6)] * 4
        self.check_tells(sayings, net, result=said)

    def test_empty_net_says_nothing(self):
        self.check_tells(sayings, Net(10, {}), result=[])

    def test_asks_say_nothing(self):
        net = Net(10, {4: 4}, letters=[("ask", 4, 4), ("ask", 4, 4)])
        self.check_tells(sayings, net, result=[(4, 4, 10)])

    def test_house_that_speaks_of_itself(self):
        letters = [("tell", 4, 4), ("answer", 4, 4, 4)]
        net = Net(10, {4: 4}, befores={4: 4}, letters=letters)
        self.check_tells(sayings, net, result=[(4, 4, 10)] * 4)

    def test_before_that_is_place_zero(self):
        net = Net(10, {0: 4, 4: 0}, befores={4: 0, 0: 0})
        self.check_tells(sayings, net, result=[(0, 4, 4), (4, 0, 6), (0, 0, 10), (0, 4, 4)])


class HoldsTrueTest(NetCase):
    def setUp(self):
        # A ring of two turns with a tail, and a ring of one turn.
        self.net = Net(10, {1: 7, 4: 1, 7: 4, 8: 4, 0: 5, 5: 0})

    def test_after_one_step(self):
        for saying in [(1, 7, 6), (4, 1, 7), (7, 4, 7), (8, 4, 6), (0, 5, 5)]:
            self.check_tells(holds_true, self.net, saying, result=True)

    def test_after_several_steps_and_turns(self):
        told = [(1, 4, 13), (1, 1, 20), (1, 7, 26), (8, 1, 13), (8, 4, 26), (8, 4, 6006), (0, 0, 10)]
        for saying in [*told, (1, 1, 3000), (5, 5, 2990), (0, 5, 2995)]:
            self.check_tells(holds_true, self.net, saying, result=True)

    def test_one_short_and_one_too_long(self):
        for start, end, length in [(1, 7, 6), (1, 4, 13), (1, 1, 20), (8, 4, 6), (8, 4, 26), (0, 0, 10)]:
            self.check_tells(holds_true, self.net, (start, end, length - 1), result=False)
            self.check_tells(holds_true, self.net, (start, end, length + 1), result=False)

    def test_another_second_house(self):
        for saying in [(1, 4, 6), (1, 7, 13), (1, 4, 20), (8, 8, 6), (8, 1, 6), (0, 0, 5), (0, 1, 5)]:
            self.check_tells(holds_true, self.net, saying, result=False)

    def test_half_a_lap_is_no_lap(self):
        for saying in [(1, 1, 10), (1, 1, 30), (8, 8, 10), (8, 8, 20)]:
            self.check_tells(holds_true, self.net, saying, result=False)

    def test_no_step_makes_no_saying_true(self):
        for saying in [(1, 1, 0), (1, 7, 0), (1, 1, -20)]:
            self.check_tells(holds_true, self.net, saying, result=False)

    def test_house_that_is_its_own_next(self):
        net = Net(10, {4: 4, 6: 4})
        for length in (10, 20, 3000):
            self.check_tells(holds_true, net, (4, 4, length), result=True)
        for saying in [(4, 4, 5), (4, 4, 11), (4, 6, 10), (6, 6, 10)]:
            self.check_tells(holds_true, net, saying, result=False)
        self.check_tells(holds_true, net, (6, 4, 2998), result=True)

    def test_great_lengths(self):
        net = Net(GREAT, {0: GREAT - 1, GREAT - 1: 7, 7: 0})
        self.check_tells(holds_true, net, (0, 0, 300 * GREAT), result=True)
        self.check_tells(holds_true, net, (0, 0, 300 * GREAT - 1), result=False)
        self.check_tells(holds_true, net, (0, 0, 299 * GREAT), result=False)
        self.check_tells(holds_true, net, (0, 7, 10**30 * 2 * GREAT + GREAT + 7), result=True)


class FirstUntrueTest(NetCase):
    def test_nets_that_only_have_nexts(self):
        chance = random.Random(35)
        for net in mixed_nets(chance, 40):
            bare = Net(net.size, net.nexts())
            self.check_tells(first_untrue, bare, result=None)
            for house in bare.houses():
                self.check_tells(piece_is_true, bare, house, result=True)
        self.check_tells(first_untrue, Net(10, {}), result=None)

    def test_next_of_another_house_makes_a_before_untrue(self):
        net = Net(10, {1: 4, 4: 7, 7: 1}, befores={7: 4, 1: 7, 4: 1})
        self.check_tells(first_untrue, net, result=None)
        net.hold(4, 4)
        self.check_tells(first_untrue, net, result=(4, 7, 3))

    def test_before_that_is_untrue(self):
        net = Net(10, {1: 7, 4: 1, 7: 4}, befores={1: 7, 7: 4, 4: 7})
        self.check_tells(first_untrue, net, result=(7, 1, 4))
        net.set_before(1, None)
        self.check_tells(first_untrue, net, result=(4, 7, 3))
        net.set_before(7, 1)
        self.check_tells(first_untrue, net, result=None)

    def test_letter_that_is_untrue(self):
        letters = [("tell", 1, 4), ("ask", 4, 4), ("answer", 1, 7, 7), ("tell", 1, 1)]
        net = Net(10, {1: 7, 4: 1, 7: 4}, letters=letters)
        self.check_tells(first_untrue, net, result=(7, 7, 10))
        net.lose(2)
        self.check_tells(first_untrue, net, result=(1, 1, 10))
        net.lose(2)
        self.check_tells(first_untrue, net, result=None)

    def test_befores_come_ahead_of_letters(self):
        net = Net(10, {1: 7, 4: 1, 7: 4}, befores={7: 4}, letters=[("tell", 1, 7)])
        self.check_tells(first_untrue, net, result=(4, 7, 3))


class PieceIsTrueTest(NetCase):
    def setUp(self):
        self.nexts = {1: 7, 7: 1, 2: 5, 5: 2, 9: 9}

    def check_pieces(self, net, truths):
        for piece, truth in zip([[1, 7], [2, 5], [9]], truths):
            for house in piece:
                self.check_tells(piece_is_true, net, house, result=truth)

    def test_untrue_within_one_piece(self):
        self.check_pieces(Net(10, self.nexts), [True, True, True])
        self.check_pieces(Net(10, self.nexts, befores={7: 7}), [True, True, True])
        net = Net(10, {**self.nexts, 6: 1}, letters=[("tell", 7, 6)])
        self.check_pieces(net, [False, True, True])
        self.check_tells(piece_is_true, net, 6, result=False)

    def test_untrue_saying_names_a_house_only_as_first(self):
        # The before of 5 is 1: (1, 5, 4) has 1 as first and 5 as second house.
        self.check_pieces(Net(10, self.nexts, befores={5: 1}), [False, False, True])
        self.check_pieces(Net(10, self.nexts, letters=[("tell", 9, 2)]), [True, False, False])

    def test_untrue_saying_names_a_house_only_as_second(self):
        self.check_pieces(Net(10, self.nexts, befores={1: 9}), [False, True, False])
        self.check_pieces(Net(10, self.nexts, letters=[("answer", 1, 2, 9)]), [True, False, False])

    def test_reader_of_an_answer_is_not_named(self):
        net = Net(10, self.nexts, letters=[("answer", 1, 2, 5), ("ask", 9, 1)])
        self.check_pieces(net, [True, True, True])

    def test_places_without_a_house(self):
        net = Net(10, self.nexts)
        for place in (0, 3, 10, -1):
            self.check_fails(piece_is_true, net, place, error=NoHouse(place))
        self.check_fails(piece_is_true, Net(10, {}), 0, error=NoHouse(0))


class ModelTest(NetCase):
    def test_against_the_model(self):
        chance = random.Random(33)
        untrue = 0
        for net in mixed_nets(chance, 240):
            model = Model(net)
            wrong = model.untrue()
            untrue += len(wrong)
            self.check_tells(sayings, net, result=model.sayings())
            self.check_tells(first_untrue, net, result=wrong[0] if wrong else None)
            for piece in model.pieces():
                truth = all(s[0] not in piece and s[1] not in piece for s in wrong)
                for house in piece:
                    self.check_tells(piece_is_true, net, house, result=truth)
        self.assertGreater(untrue, 50)

    def test_every_saying_on_small_circles(self):
        chance = random.Random(34)
        for net in mixed_nets(chance, 12, sizes=(1, 3, 5), most=4):
            model = Model(net)
            for start in net.houses():
                for end in net.houses():
                    for length in range(1, 5 * net.size):
                        saying = (start, end, length)
                        self.check_tells(holds_true, net, saying, result=model.is_true(saying))


class StaysTrueTest(NetCase):
    def true_sayings(self, net):
        """Return all true sayings up to a length that goes round every ring."""
        model = Model(net)
        found = []
        for start in net.houses():
            for house, length in model.stops(start, 2 * len(model.nexts))[1:]:
                found.append((start, house, length))
        return found

    def test_what_was_true_stays_true(self):
        chance = random.Random(36)
        changes = 0
        for _ in range(120):
            net = true_net(chance, chance.choice([3, 5, 8, 11]))
            for _ in range(40):
                truths = self.true_sayings(net)
                earlier = net.snapshot()
                random_call(chance, net, CALLS_WITH_ADMIT)
                changes += net.nexts() != {row[0]: row[1] for row in earlier[1]}
                self.assertIsNone(first_untrue(net))
                self.assertEqual([s for s in truths if not holds_true(net, s)], [])
        self.assertGreater(changes, 100)

    def test_pieces_turns_and_rings_stay(self):
        chance = random.Random(37)
        for _ in range(60):
            net = true_net(chance, chance.choice([5, 8, 11]))
            found = pieces(net)
            turns = {house: turns_of(net, house) for house in net.houses()}
            rings = [house for house in net.houses() if on_ring(net, house)]
            for _ in range(40):
                random_call(chance, net)
                self.assertEqual(pieces(net), found)
                self.assertEqual({house: turns_of(net, house) for house in net.houses()}, turns)
                self.assertEqual([house for house in rings if not on_ring(net, house)], [])

    def test_new_house_joins_the_piece_of_its_host(self):
        net = Net(10, ring_nexts([1, 7, 4], [5, 6]))
        net.admit(8, 4)
        self.check_tells(pieces, net, result=[[1, 4, 7, 8], [5, 6]])
        net.admit(0, 0)
        self.check_tells(pieces, net, result=[[0], [1, 4, 7, 8], [5, 6]])
        self.check_tells(turns_of, net, 8, result=2)
