"""Points 43 to 47: the end told in advance."""

import random

from net_case import CALLS, NetCase, all_nexts, mixed_nets, random_call, ring_nexts, true_net, wild_net
from piece_model import Model
from ringlaps.calm import settle
from ringlaps.ends import change_bounds, ends_plain, far_sum, is_plain, loss, rooms, told_end
from ringlaps.errors import UntrueNet
from ringlaps.net import Net
from ringlaps.pieces import pieces, turns_of

GREAT = 1000000000
RAISING = (told_end, rooms, change_bounds, loss)


def ring_net():
    """Return a net of a ring of two turns with a tail."""
    return Net(10, {1: 7, 4: 1, 7: 4, 8: 4})


def model_rooms(net):
    """Return the rooms by the words of point 44, with the marks of the model."""
    model = Model(net)
    found = {}
    for house in net.houses():
        marks = model.marks(house)
        lap = model.turns(house) * net.size
        ahead = [(mark - marks[house]) % lap for mark in marks.values()]
        found[house] = sum(0 < length < model.reach(house) for length in ahead)
    return found


class EndsCase(NetCase):
    def check_ends(self, net, *, end, told_rooms, bounds, lost):
        self.check_tells(told_end, net, result=end)
        self.check_tells(rooms, net, result=told_rooms)
        self.check_tells(change_bounds, net, result=bounds)
        self.check_tells(loss, net, result=lost)
        self.check_comes_true(net.clone())

    def check_comes_true(self, net):
        """Check that the net settles to its told end, with the changes and the loss told."""
        end, told_rooms, lost, earlier = told_end(net), rooms(net), loss(net), far_sum(net)
        nexts = net.nexts()
        settle(net)
        self.assertEqual(net.nexts(), end)
        self.assertEqual(earlier - far_sum(net), lost)
        changed = {house for house in nexts if end[house] != nexts[house]}
        self.assertEqual(changed, {house for house, room in told_rooms.items() if room > 0})


class ToldTest(EndsCase):
    def test_example(self):
        end, told_rooms = {1: 7, 4: 1, 7: 8, 8: 4}, {1: 0, 4: 0, 7: 1, 8: 0}
        self.check_ends(ring_net(), end=end, told_rooms=told_rooms, bounds=(1, 1), lost=6)
        self.check_tells(ends_plain, ring_net(), result=False)

    def test_ring_with_nothing_to_change(self):
        for order in ([1, 4, 7], [9, 7, 4, 1], [3], [2, 9, 4, 7]):
            zeros = {house: 0 for house in sorted(order)}
            end = ring_nexts(order)
            end = {house: end[house] for house in sorted(order)}
            net = Net(10, end)
            self.check_ends(net, end=end, told_rooms=zeros, bounds=(0, 0), lost=0)

    def test_tail_before_a_ring_of_one_house(self):
        net = Net(10, {1: 1, 4: 1, 7: 4})
        end, told_rooms = {1: 4, 4: 7, 7: 1}, {1: 2, 4: 1, 7: 1}
        self.check_ends(net, end=end, told_rooms=told_rooms, bounds=(3, 4), lost=14)

    def test_houses_that_all_hold_one_house(self):
        net = Net(10, {house: 0 for house in range(10)})
        end = {house: (house + 1) % 10 for house in range(10)}
        told_rooms = {house: 9 - house for house in range(10)}
        self.check_ends(net, end=end, told_rooms=told_rooms, bounds=(9, 45), lost=45)

    def test_several_pieces(self):
        net = Net(10, {1: 7, 4: 1, 7: 4, 8: 4, 2: 2, 5: 2, 0: 0})
        end = {0: 0, 1: 7, 2: 5, 4: 1, 5: 2, 7: 8, 8: 4}
        told_rooms = {0: 0, 1: 0, 2: 1, 4: 0, 5: 0, 7: 1, 8: 0}
        self.check_ends(net, end=end, told_rooms=told_rooms, bounds=(2, 2), lost=13)

    def test_houses_of_other_turns_leave_no_room(self):
        # 3 lies between 1 and 7, but in the other turn of their ring.
        net = Net(10, {1: 7, 7: 3, 3: 1})
        zeros = {1: 0, 3: 0, 7: 0}
        self.check_ends(net, end={1: 7, 3: 1, 7: 3}, told_rooms=zeros, bounds=(0, 0), lost=0)
        # The mark of 2 is 12, one less than that of 3, so 1 has no room for it, but 7 has.
        net.admit(2, 3)
        end, told_rooms = {1: 7, 2: 3, 3: 1, 7: 2}, {1: 0, 2: 0, 3: 0, 7: 1}
        self.check_ends(net, end=end, told_rooms=told_rooms, bounds=(1, 1), lost=1)

    def test_befores_and_letters_that_are_true(self):
        letters = [("tell", 4, 8), ("ask", 4, 7), ("answer", 7, 4, 8)]
        net = Net(10, ring_net().nexts(), befores={4: 7, 1: 4}, letters=letters)
        end, told_rooms = {1: 7, 4: 1, 7: 8, 8: 4}, {1: 0, 4: 0, 7: 1, 8: 0}
        self.check_ends(net, end=end, told_rooms=told_rooms, bounds=(1, 1), lost=6)

    def test_empty_net(self):
        self.check_ends(Net(10, {}), end={}, told_rooms={}, bounds=(0, 0), lost=0)

    def test_great_circle(self):
        places = list(range(0, GREAT, GREAT // 40))
        net = Net(GREAT, {place: 0 for place in places})
        end = dict(zip(places, [*places[1:], 0]))
        told_rooms = {place: 39 - at for at, place in enumerate(places)}
        lost = sum(GREAT - place for place in places[1:])
        self.check_ends(net, end=end, told_rooms=told_rooms, bounds=(39, 780), lost=lost)


class UntrueNetTest(EndsCase):
    def check_untrue(self, net, saying):
        for function in RAISING:
            self.check_fails(function, net, error=UntrueNet(saying))
        self.check_tells(ends_plain, net, result=False)

    def test_before_that_is_untrue(self):
        net = Net(10, {1: 7, 4: 1, 7: 4}, befores={4: 7, 7: 4, 1: 7})
        self.check_untrue(net, (7, 1, 4))
        net.set_before(1, 4)
        self.check_untrue(net, (4, 7, 3))
        net.set_before(7, 1)
        self.check_tells(told_end, net, result={1: 7, 4: 1, 7: 4})

    def test_letter_that_is_untrue(self):
        letters = [("tell", 4, 7), ("ask", 4, 1), ("answer", 1, 7, 4), ("tell", 1, 7)]
        net = Net(10, {1: 7, 4: 1, 7: 4}, letters=letters)
        self.check_untrue(net, (4, 7, 3))
        net.lose(2)
        self.check_untrue(net, (7, 1, 4))
        net.lose(2)
        self.check_tells(told_end, net, result={1: 7, 4: 1, 7: 4})

    def test_untrue_saying_of_one_piece_only(self):
        net = Net(10, {1: 4, 4: 1, 7: 7, 9: 9}, befores={9: 7})
        self.check_untrue(net, (7, 9, 2))

    def test_wild_nets(self):
        chance = random.Random(46)
        untrue = 0
        for _ in range(150):
            net = wild_net(chance, chance.choice([3, 5, 8]))
            wrong = Model(net).untrue()
            if wrong:
                self.check_untrue(net, wrong[0])
                untrue += 1
        self.assertGreater(untrue, 50)


class ComesTrueTest(EndsCase):
    def test_against_the_model(self):
        chance = random.Random(43)
        for _ in range(80):
            net = true_net(chance, chance.choice([1, 2, 3, 5, 8, 11]))
            model = Model(net)
            end = {}
            for house in net.houses():
                row = model.row(house)
                end[house] = row[(row.index(house) + 1) % len(row)]
            counts = model_rooms(net)
            bounds = (sum(count > 0 for count in counts.values()), sum(counts.values()))
            rings = [model.ring(house) for house in net.houses()]
            lost = sum(model.reach(u) for u, ring in zip(net.houses(), rings) if u not in ring)
            self.check_ends(net, end=end, told_rooms=counts, bounds=bounds, lost=lost)

    def test_told_end_stays_through_all_letters(self):
        chance = random.Random(44)
        for _ in range(60):
            net = true_net(chance, chance.choice([3, 5, 8, 11]))
            end = told_end(net)
            for _ in range(40):
                random_call(chance, net)
                self.check_tells(told_end, net, result=end)
            self.check_comes_true(net)

    def test_letters_come_to_the_told_end_within_the_bounds(self):
        chance = random.Random(45)
        words = tuple(word for word in CALLS if word != "lose")
        changes = 0
        for _ in range(40):
            net = true_net(chance, chance.choice([3, 5, 8, 11]))
            end, told_rooms = told_end(net), rooms(net)
            fewest, most = change_bounds(net)
            earlier, lost = far_sum(net), loss(net)
            counts = {house: 0 for house in net.houses()}
            while net.nexts() != end:
                nexts = net.nexts()
                random_call(chance, net, words)
                for house, following in net.nexts().items():
                    counts[house] += following != nexts[house]
            for house, count in counts.items():
                self.assertTrue((told_rooms[house] > 0) <= count <= told_rooms[house])
            self.assertTrue(fewest <= sum(counts.values()) <= most)
            self.assertEqual(earlier - far_sum(net), lost)
            changes += sum(counts.values())
        self.assertGreater(changes, 50)

    def test_all_small_nets(self):
        for size, houses in [(4, [0, 1, 3]), (5, [1, 2, 3, 4])]:
            for nexts in all_nexts(houses):
                net = Net(size, nexts)
                self.check_tells(rooms, net, result=model_rooms(net))
                self.check_comes_true(net)


class FarSumTest(EndsCase):
    def test_far_sum(self):
        self.check_tells(far_sum, ring_net(), result=6 + 7 + 7 + 6)
        self.check_tells(far_sum, Net(10, {}), result=0)
        self.check_tells(far_sum, Net(10, {3: 3}), result=10)
        self.check_tells(far_sum, Net(10, {3: 3, 4: 4}), result=20)
        self.check_tells(far_sum, Net(10, ring_nexts([1, 4, 7])), result=10)

    def test_of_a_net_with_an_untrue_saying(self):
        net = Net(10, {1: 4, 4: 1, 7: 7}, befores={7: 1})
        self.check_tells(far_sum, net, result=20)


class PlainTest(EndsCase):
    def check_plain(self, net, plain, ends):
        self.check_tells(is_plain, net, result=plain)
        self.check_tells(ends_plain, net, result=ends)

    def test_empty_net_and_one_house(self):
        self.check_plain(Net(10, {}), True, True)
        self.check_plain(Net(10, {3: 3}), True, True)
        self.check_plain(Net(1, {0: 0}), True, True)

    def test_plain_ring(self):
        self.check_plain(Net(10, ring_nexts([1, 4, 7])), True, True)
        self.check_plain(Net(10, ring_nexts([4, 7, 1])), True, True)
        self.check_plain(Net(GREAT, ring_nexts([0, GREAT - 1])), True, True)

    def test_ring_with_tails(self):
        self.check_plain(Net(10, {1: 1, 4: 1, 7: 4}), False, True)
        self.check_plain(Net(10, {1: 4, 4: 1, 7: 4}), False, True)

    def test_ring_of_two_turns(self):
        self.check_plain(Net(10, ring_nexts([1, 7, 4])), False, False)
        self.check_plain(ring_net(), False, False)

    def test_two_rings(self):
        self.check_plain(Net(10, {1: 1, 2: 2}), False, False)
        self.check_plain(Net(10, ring_nexts([1, 4], [6, 8])), False, False)
        self.check_plain(Net(10, ring_nexts([1, 4, 7], [8])), False, False)

    def test_net_with_an_untrue_saying(self):
        nexts = {1: 4, 4: 1, 7: 1}
        self.check_plain(Net(10, nexts, befores={4: 1}), False, True)
        self.check_plain(Net(10, nexts, befores={4: 7}), False, True)
        self.check_plain(Net(10, nexts, befores={1: 7}), False, True)
        self.check_plain(Net(10, nexts, befores={7: 4}), False, False)
        self.check_plain(Net(10, nexts, letters=[("tell", 7, 1)]), False, False)

    def test_befores_of_a_plain_ring_are_always_true(self):
        for before in (1, 4, 7):
            for house in (1, 4, 7):
                net = Net(10, ring_nexts([1, 4, 7]), befores={house: before})
                self.check_plain(net, True, True)

    def test_one_piece_of_one_turn(self):
        chance = random.Random(47)
        for net in mixed_nets(chance, 200):
            houses = net.houses()
            model = Model(net)
            plain = all(not model.is_between(u, x, model.nexts[u]) for u in houses for x in houses)
            if len(houses) > 1:
                plain = plain and all(model.nexts[u] != u for u in houses)
            one = not model.untrue() and len(pieces(net)) == 1 and turns_of(net, houses[0]) == 1
            self.check_plain(net, plain, one)
