"""Points 65 and 66: quiet pieces, and houses that leave them."""

import random

from net_case import NetCase, mixed_nets, ring_nexts
from piece_model import Model
from ringlaps.ends import told_end
from ringlaps.errors import NoHouse, NotQuiet
from ringlaps.leaving import is_quiet, leave
from ringlaps.mender import Mender
from ringlaps.net import Net
from ringlaps.pieces import on_ring, turns_of
from ringlaps.sayings import piece_is_true

GREAT = 1000000000

# A ring of two turns and a ring of one turn, whose houses lie between each other.
TWO_TURNS = [1, 7, 4]
ONE_TURN = [3, 5, 9]


def quiet_net(size, *orders, **more):
    """Return a net of rings in which each house is the before of its next."""
    nexts = ring_nexts(*orders)
    return Net(size, nexts, befores={following: house for house, following in nexts.items()}, **more)


def quiet_by_its_words(net, house):
    """Return what point 65 says, condition by condition."""
    model = Model(net)
    piece = model.piece(house)
    held = list(model.nexts.values())
    befores = [model.befores.get(model.nexts[u]) for u in piece]
    others = [model.befores.get(u) for u in model.nexts if u not in piece]
    named = [place for letter in model.letters for place in letter[1:]]
    each_once = all(held.count(u) == 1 for u in piece)
    return each_once and befores == piece and not set(piece) & {*others, *named}


class QuietCase(NetCase):
    def check_quiet(self, net, quiet, other):
        """Check which houses stand in quiet pieces and which in others."""
        self.assertEqual(sorted([*quiet, *other]), net.houses())
        for house in net.houses():
            self.check_tells(is_quiet, net, house, result=house in quiet)

    def check_leave(self, net, house, turns):
        """Check that a house leaves, with what is returned, and that the rest of the net stays."""
        expected = net.clone()
        before, following = net.before_of(house), net.next_of(house)
        rest = [other for other in Model(net).piece(house) if other != house]
        if rest:
            expected.hold(before, following)
            expected.set_before(following, before)
        expected.take_out(house)
        self.check_same(leave(net, house), turns)
        self.assertEqual(net.snapshot(), expected.snapshot())
        for other in rest:
            self.check_tells(is_quiet, net, other, result=True)
            self.check_tells(turns_of, net, other, result=turns)


class IsQuietTest(QuietCase):
    def test_quiet_pieces(self):
        for size, orders in [(1, [[0]]), (10, [[3]]), (10, [[4, 8]]), (10, [TWO_TURNS]), (10, [[9, 7, 4, 1]])]:
            net = quiet_net(size, *orders)
            self.check_quiet(net, net.houses(), [])
        net = quiet_net(10, TWO_TURNS, ONE_TURN, [0], [2, 6])
        self.check_quiet(net, net.houses(), [])

    def test_house_that_is_the_next_of_two_or_of_none(self):
        net = quiet_net(10, TWO_TURNS, ONE_TURN)
        net.admit(8, 4)
        self.check_quiet(net, ONE_TURN, [8, *TWO_TURNS])
        net = quiet_net(10, TWO_TURNS, ONE_TURN)
        net.hold(7, 7)
        self.check_quiet(net, ONE_TURN, TWO_TURNS)
        net.set_before(7, 7)
        self.check_quiet(net, ONE_TURN, TWO_TURNS)

    def test_house_on_a_tail_whose_before_is_its_next(self):
        # Each before is one of the houses whose next it is, except that of 8, which is no next.
        for before in (None, 4, 7):
            net = quiet_net(10, TWO_TURNS, ONE_TURN)
            net.admit(8, 4)
            net.set_before(8, before)
            self.check_quiet(net, ONE_TURN, [8, *TWO_TURNS])
            net.set_before(4, 8)
            self.check_quiet(net, ONE_TURN, [8, *TWO_TURNS])

    def test_before_that_is_missing(self):
        for house in TWO_TURNS:
            net = quiet_net(10, TWO_TURNS, ONE_TURN)
            net.set_before(house, None)
            self.check_quiet(net, ONE_TURN, TWO_TURNS)
        self.check_quiet(Net(10, {3: 3}), [], [3])

    def test_before_that_is_another_house(self):
        for house, before in [(1, 1), (1, 7), (4, 4), (4, 1), (7, 7), (7, 4)]:
            net = quiet_net(10, TWO_TURNS, ONE_TURN)
            net.set_before(house, before)
            self.check_quiet(net, ONE_TURN, TWO_TURNS)

    def test_before_in_another_piece(self):
        # The one piece has a wrong before, and a house of the other one is named from outside.
        for house, before in [(1, 3), (4, 5), (7, 9), (3, 1), (9, 7)]:
            net = quiet_net(10, TWO_TURNS, ONE_TURN, [0])
            net.set_before(house, before)
            self.check_quiet(net, [0], [*TWO_TURNS, *ONE_TURN])

    def test_house_of_another_piece_with_a_before_of_this_piece(self):
        # 8 is no house of the ring, but a piece of its own, which has a house of the ring as before.
        for before in TWO_TURNS:
            net = quiet_net(10, TWO_TURNS, ONE_TURN)
            net.admit(8, 8)
            net.set_before(8, before)
            self.check_quiet(net, ONE_TURN, [8, *TWO_TURNS])

    def test_letters_that_name_houses_of_one_piece(self):
        for letter in [("tell", 4, 7), ("ask", 1, 1), ("answer", 4, 7, 1)]:
            net = quiet_net(10, TWO_TURNS, ONE_TURN, letters=[letter])
            self.check_quiet(net, ONE_TURN, TWO_TURNS)

    def test_letters_that_name_a_house_as_reader_sender_or_named_house_only(self):
        letters = [("tell", 7, 5), ("tell", 5, 7), ("ask", 7, 5), ("ask", 5, 7)]
        letters += [("answer", 7, 5, 3), ("answer", 5, 7, 3), ("answer", 5, 3, 7)]
        for letter in letters:
            for more in ([letter], [("tell", 3, 3), letter], [letter, ("ask", 5, 9)]):
                net = quiet_net(10, TWO_TURNS, ONE_TURN, [0], letters=more)
                self.check_quiet(net, [0], [*TWO_TURNS, *ONE_TURN])

    def test_what_stays_within_another_piece(self):
        net = quiet_net(10, TWO_TURNS, ONE_TURN, letters=[("answer", 3, 5, 9), ("tell", 5, 5)])
        net.set_before(5, 9)
        net.set_before(9, None)
        self.check_quiet(net, TWO_TURNS, ONE_TURN)

    def test_letter_that_is_gone(self):
        net = quiet_net(10, TWO_TURNS)
        net.ask(4)
        self.check_quiet(net, [], TWO_TURNS)
        net.lose(0)
        self.check_quiet(net, TWO_TURNS, [])

    def test_round_letters_do_not_count(self):
        net = quiet_net(10, TWO_TURNS, ONE_TURN)
        mender = Mender(net)
        for house in net.houses():
            mender.write_lap(house)
        mender.carry(0)
        self.assertEqual(len(mender.laps()), 6)
        self.check_quiet(net, net.houses(), [])
        laps = mender.laps()
        self.check_leave(net, 7, turns=1)
        self.assertEqual(mender.laps(), laps)

    def test_places_without_a_house(self):
        for function in (is_quiet, leave):
            for place in (0, 2, 8, 10, -1):
                net = quiet_net(10, TWO_TURNS)
                self.check_fails(function, net, place, error=NoHouse(place))
            self.check_fails(function, Net(10, {}), 0, error=NoHouse(0))

    def test_quiet_pieces_are_true_rings(self):
        chance = random.Random(65)
        quiet = 0
        for net in mixed_nets(chance, 300) + disturbed_nets(chance, 300):
            for house in net.houses():
                found = quiet_by_its_words(net, house)
                self.check_tells(is_quiet, net, house, result=found)
                if found:
                    self.assertTrue(piece_is_true(net, house))
                    self.assertTrue(on_ring(net, house))
                    quiet += 1
        self.assertGreater(quiet, 500)


def random_orders(chance, size, most=7):
    """Return some places, parted into up to three ring orders."""
    order = chance.sample(range(size), chance.randrange(1, min(size, most) + 1))
    cuts = sorted(chance.randrange(len(order) + 1) for _ in range(2))
    parts = [order[: cuts[0]], order[cuts[0] : cuts[1]], order[cuts[1] :]]
    return [part for part in parts if part]


def disturbed_nets(chance, count):
    """Return quiet nets, each of which one small change may have disturbed."""
    found = []
    for _ in range(count):
        net = quiet_net(11, *random_orders(chance, 11))
        houses = net.houses()
        change = chance.randrange(6)
        if change == 0:
            net.hold(chance.choice(houses), chance.choice(houses))
        if change in (1, 2):
            net.set_before(chance.choice(houses), chance.choice([*houses, None]))
        if change == 3:
            getattr(net, chance.choice(["tell", "ask"]))(chance.choice(houses))
        if change == 4:
            word, *places = chance.choice([["tell"], ["ask"], ["answer", chance.choice(houses)]])
            letter = (word, chance.choice(houses), chance.choice(houses), *places)
            net = Net(11, net.nexts(), befores=net.befores(), letters=[letter])
        found.append(net)
    return found


class LeaveTest(QuietCase):
    def test_each_house_of_a_ring_of_one_turn(self):
        for house in (2, 5, 9):
            self.check_leave(quiet_net(10, [2, 5, 9], TWO_TURNS), house, turns=1)

    def test_each_house_of_a_ring_of_two_turns(self):
        # Each of them is passed in a step over a whole turn: 4 to 1 to 7, 1 to 7 to 4, 7 to 4 to 1.
        for house in TWO_TURNS:
            self.check_leave(quiet_net(10, TWO_TURNS), house, turns=1)
        for house, turns in [(1, 1), (4, 1), (7, 2), (8, 2)]:
            self.check_leave(quiet_net(10, [1, 7, 8, 4]), house, turns=turns)

    def test_each_house_of_a_ring_of_three_turns(self):
        for house, turns in [(1, 2), (9, 2), (7, 2), (4, 2)]:
            self.check_leave(quiet_net(10, [1, 9, 7, 4]), house, turns=turns)
        for house, turns in [(1, 2), (5, 3), (9, 2), (7, 2), (4, 2)]:
            self.check_leave(quiet_net(10, [1, 5, 9, 7, 4]), house, turns=turns)

    def test_house_that_is_its_own_next(self):
        net = quiet_net(10, [4], TWO_TURNS[:1])
        self.check_leave(net, 4, turns=0)
        self.check_leave(net, 1, turns=0)
        self.assertEqual(net.snapshot(), (10, (), ()))
        self.check_leave(quiet_net(1, [0]), 0, turns=0)

    def test_last_two_houses(self):
        for house, other in [(3, 8), (8, 3)]:
            net = quiet_net(10, [3, 8])
            self.check_leave(net, house, turns=1)
            self.assertEqual(net.snapshot(), (10, ((other, other, other),), ()))
            self.check_leave(net, other, turns=0)

    def test_distances_that_are_just_size_one_less_and_one_more(self):
        # From 4 to 8 and on to 3, 4 and 5 is 9, 10 and 11 long.
        for order, turns in [
            ([4, 8, 3], 1),
            ([4, 8], 1),
            ([4, 8, 5], 1),
            ([4, 8, 3, 2], 2),
            ([4, 8, 5, 3], 1),
            ([4, 8, 3, 2, 1], 3),
            ([4, 8, 5, 3, 2], 2),
        ]:
            self.check_leave(quiet_net(10, order), 8, turns=turns)
            self.check_leave(quiet_net(GREAT, order), 8, turns=turns)

    def test_other_pieces_stay(self):
        net = quiet_net(20, [11, 17, 14], [3], letters=[("ask", 3, 3)])
        net.admit(6, 3)
        self.check_leave(net, 14, turns=1)
        self.assertEqual(net.nexts(), {3: 3, 6: 3, 11: 17, 17: 11})
        self.assertEqual((net.befores(), net.letters()), ({3: 3, 11: 17, 17: 11}, [("ask", 3, 3)]))

    def test_pieces_that_are_not_quiet(self):
        net = quiet_net(10, TWO_TURNS, ONE_TURN, letters=[("tell", 7, 1)])
        for house in TWO_TURNS:
            self.check_fails(leave, net, house, error=NotQuiet(house))
        self.check_leave(net, 5, turns=1)
        for befores in ({}, {1: 4, 4: 7}, {1: 4, 4: 7, 7: 7}):
            net = Net(10, ring_nexts(TWO_TURNS), befores=befores)
            for house in TWO_TURNS:
                self.check_fails(leave, net, house, error=NotQuiet(house))
        self.check_fails(leave, Net(10, {3: 3}), 3, error=NotQuiet(3))
        net = quiet_net(10, TWO_TURNS)
        net.admit(8, 8)
        net.set_before(8, 4)
        self.check_fails(leave, net, 7, error=NotQuiet(7))

    def test_no_house_comes_ahead_of_not_quiet(self):
        net = Net(10, {1: 7, 7: 1})
        self.check_fails(leave, net, 3, error=NoHouse(3))
        self.check_fails(leave, net, 1, error=NotQuiet(1))

    def test_random_pieces_down_to_the_last_house(self):
        chance = random.Random(66)
        fewer = same = 0
        for _ in range(120):
            net = quiet_net(11, *random_orders(chance, 11, most=9))
            while net.houses():
                house = chance.choice(net.houses())
                model = Model(net)
                turns = 0
                if model.nexts[house] != house:
                    passed = model.reach(model.befores[house]) + model.reach(house)
                    turns = model.turns(house) - (passed > 11)
                    fewer += passed > 11
                    same += passed <= 11
                self.check_leave(net, house, turns=turns)
                self.assertEqual(told_end(net), net.nexts())
        self.assertGreater(min(fewer, same), 50)
