"""Points 27 to 32: ways, rings and pieces."""

import random

from net_case import NetCase, mixed_nets, ring_nexts
from piece_model import Model
from ringlaps.errors import NoHouse
from ringlaps.net import Net
from ringlaps.pieces import (
    arrows_over,
    gate_of,
    house_at,
    least_of,
    on_ring,
    piece_of,
    pieces,
    ring_of,
    turns_of,
    way,
    way_length,
)

GREAT = 1000000000

# A ring of two turns with a tail of two houses, a ring of one turn with a tail, a house alone.
NEXTS = {1: 12, 4: 1, 12: 4, 14: 4, 15: 14, 5: 9, 9: 5, 3: 9, 18: 18}


class PiecesCase(NetCase):
    def setUp(self):
        self.net = Net(20, NEXTS)


class WayTest(PiecesCase):
    def test_way(self):
        net = self.net
        self.check_tells(way, net, 15, 12, result=[15, 14, 4, 1, 12])
        self.check_tells(way, net, 15, 14, result=[15, 14])
        self.check_tells(way, net, 4, 12, result=[4, 1, 12])
        self.check_tells(way, net, 1, 4, result=[1, 12, 4])
        self.check_tells(way_length, net, 15, 12, result=19 + 10 + 17 + 11)
        self.check_tells(way_length, net, 15, 14, result=19)
        self.check_tells(way_length, net, 4, 12, result=28)
        self.check_tells(way_length, net, 3, 5, result=22)

    def test_way_to_the_start_itself(self):
        for house in NEXTS:
            self.check_tells(way, self.net, house, house, result=[house])
            self.check_tells(way_length, self.net, house, house, result=0)

    def test_way_that_never_meets_the_end(self):
        # Another piece, a tail behind the start, a tail beside it, a ring of one house.
        for start, end in [(1, 5), (4, 15), (14, 15), (12, 14), (5, 3), (18, 1), (1, 18)]:
            self.check_tells(way, self.net, start, end, result=None)
            self.check_tells(way_length, self.net, start, end, result=None)

    def test_places_without_a_house(self):
        for function in (way, way_length):
            for place in (0, 2, 19, 20, -1, GREAT):
                self.check_fails(function, self.net, place, 1, error=NoHouse(place))
                self.check_fails(function, self.net, 1, place, error=NoHouse(place))
                self.check_fails(function, self.net, place, place, error=NoHouse(place))
            self.check_fails(function, self.net, 6, 7, error=NoHouse(6))
            self.check_fails(function, self.net, 7, 6, error=NoHouse(7))
            self.check_fails(function, Net(20, {}), 0, 0, error=NoHouse(0))

    def test_place_that_is_refused_and_then_admitted(self):
        net = self.net
        self.check_fails(way, net, 2, 9, error=NoHouse(2))
        self.check_fails(way_length, net, 5, 2, error=NoHouse(2))
        self.check_fails(house_at, net, 2, 0, error=NoHouse(2))
        net.admit(2, 3)
        self.check_tells(way, net, 2, 9, result=[2, 3, 9])
        self.check_tells(way_length, net, 2, 5, result=23)
        self.check_tells(way_length, net, 5, 2, result=None)
        self.check_tells(house_at, net, 2, 1, result=(3, 1))
        net.take_out(2)
        self.check_fails(way, net, 2, 9, error=NoHouse(2))
        self.check_fails(house_at, net, 2, 1, error=NoHouse(2))


class HouseAtTest(PiecesCase):
    def test_edges_of_the_steps(self):
        expected = {
            -300: (15, 0),
            -1: (15, 0),
            0: (15, 0),
            1: (14, 19),
            18: (14, 19),
            19: (14, 19),
            20: (4, 29),
            28: (4, 29),
            29: (4, 29),
            30: (1, 46),
            46: (1, 46),
            47: (12, 57),
            57: (12, 57),
            58: (4, 69),
            69: (4, 69),
            70: (1, 86),
            86: (1, 86),
            87: (12, 97),
            98: (4, 109),
            109: (4, 109),
            110: (1, 126),
        }
        for distance, told in expected.items():
            self.check_tells(house_at, self.net, 15, distance, result=told)

    def test_house_that_is_its_own_next(self):
        for distance, told in [(0, 0), (1, 20), (19, 20), (20, 20), (21, 40), (40, 40), (6000, 6000)]:
            self.check_tells(house_at, self.net, 18, distance, result=(18, told))
        self.check_tells(house_at, Net(1, {0: 0}), 0, 300, result=(0, 300))
        self.check_tells(house_at, Net(1, {0: 0}), 0, 0, result=(0, 0))

    def test_several_turns(self):
        model = Model(self.net)
        for start in NEXTS:
            for distance in [*range(-2, 130), 5980, 5999, 6000]:
                result = model.house_at(start, distance)
                self.check_tells(house_at, self.net, start, distance, result=result)

    def test_great_circle(self):
        net = Net(GREAT, {0: GREAT - 1, GREAT - 1: 7, 7: 0})
        lap = 2 * GREAT
        self.check_tells(turns_of, net, 0, result=2)
        self.check_tells(house_at, net, 0, 300 * GREAT, result=(0, 300 * GREAT))
        self.check_tells(house_at, net, 0, 300 * GREAT - 1, result=(0, 300 * GREAT))
        told = (GREAT - 1, 300 * GREAT + GREAT - 1)
        self.check_tells(house_at, net, 0, 300 * GREAT + 1, result=told)
        # Far beyond the limit a way is not walked any more, but the rule is the same.
        told = (7, 10**30 * lap + GREAT + 7)
        self.check_tells(house_at, net, 0, 10**30 * lap + GREAT, result=told)

    def test_places_without_a_house(self):
        for place in (0, 2, 19, 20, -1):
            for distance in (-1, 0, 1, 6000):
                self.check_fails(house_at, self.net, place, distance, error=NoHouse(place))
        self.check_fails(house_at, Net(20, {}), 0, 0, error=NoHouse(0))


class RingTest(PiecesCase):
    def test_house_on_a_ring_and_on_a_tail(self):
        for house in (1, 4, 12, 14, 15):
            self.check_tells(ring_of, self.net, house, result=[1, 12, 4])
        for house in (5, 9, 3):
            self.check_tells(ring_of, self.net, house, result=[5, 9])
        self.check_tells(ring_of, self.net, 18, result=[18])

    def test_on_ring(self):
        for house in NEXTS:
            self.check_tells(on_ring, self.net, house, result=house not in (14, 15, 3))

    def test_gate(self):
        gates = {1: 1, 4: 4, 12: 12, 14: 4, 15: 4, 5: 5, 9: 9, 3: 9, 18: 18}
        for house, gate in gates.items():
            self.check_tells(gate_of, self.net, house, result=gate)

    def test_least_house_of_the_ring_is_not_the_one_that_is_asked(self):
        net = Net(10, ring_nexts([7, 2, 9, 4]))
        for house in (2, 4, 7, 9):
            self.check_tells(ring_of, net, house, result=[2, 9, 4, 7])


class PieceTest(PiecesCase):
    def test_piece(self):
        for piece in ([1, 4, 12, 14, 15], [3, 5, 9], [18]):
            for house in piece:
                self.check_tells(piece_of, self.net, house, result=piece)
                self.check_tells(least_of, self.net, house, result=piece[0])

    def test_pieces(self):
        self.check_tells(pieces, self.net, result=[[1, 4, 12, 14, 15], [3, 5, 9], [18]])
        self.check_tells(pieces, Net(20, {}), result=[])
        self.check_tells(pieces, Net(20, {7: 7}), result=[[7]])

    def test_pieces_come_by_their_least_houses_not_by_their_rings(self):
        net = Net(10, {0: 9, 9: 9, 1: 2, 2: 1, 3: 8, 8: 3})
        self.check_tells(pieces, net, result=[[0, 9], [1, 2], [3, 8]])

    def test_least_house_on_a_tail(self):
        net = Net(10, {0: 5, 5: 7, 7: 5})
        for house in (0, 5, 7):
            self.check_tells(least_of, net, house, result=0)


class TurnsTest(PiecesCase):
    def test_turns(self):
        for house, turns in {1: 2, 4: 2, 12: 2, 14: 2, 15: 2, 5: 1, 3: 1, 18: 1}.items():
            self.check_tells(turns_of, self.net, house, result=turns)
        down = list(range(39, -1, -1))
        self.check_tells(turns_of, Net(40, ring_nexts(down)), 5, result=39)
        self.check_tells(turns_of, Net(40, ring_nexts(down[::-1])), 5, result=1)
        self.check_tells(turns_of, Net(1, {0: 0}), 0, result=1)

    def test_arrows_over_each_place(self):
        # The steps of the ring lead from 1 up to 12, from 12 up to 4 and from 4 up to 1.
        told = [[4, 12]] * 2 + [[1, 12]] * 3 + [[1, 4]] * 8 + [[4, 12]] * 7
        for place, arrows in enumerate(told):
            for house in (1, 15):
                self.check_tells(arrows_over, self.net, house, place, result=arrows)

    def test_arrows_over_by_hand(self):
        net = Net(10, {1: 7, 4: 1, 7: 4, 8: 4})
        told = {0: [4, 7], 1: [4, 7], 2: [1, 7], 4: [1, 7], 5: [1, 4], 7: [1, 4], 8: [4, 7]}
        for place, arrows in told.items():
            self.check_tells(arrows_over, net, 8, place, result=arrows)
        for place in range(20):
            self.check_tells(arrows_over, self.net, 18, place, result=[18])

    def test_tails_cover_nothing(self):
        net = Net(10, {1: 7, 7: 1, 0: 9, 9: 8, 8: 7})
        for place in range(10):
            arrows = [1] if 2 <= place <= 7 else [7]
            self.check_tells(arrows_over, net, 0, place, result=arrows)


class NoHouseTest(PiecesCase):
    def test_each_function(self):
        for function in (ring_of, on_ring, gate_of, piece_of, least_of, turns_of):
            for place in (0, 2, 19, 20, -1):
                self.check_fails(function, self.net, place, error=NoHouse(place))
            self.check_fails(function, Net(20, {}), 0, error=NoHouse(0))
        for place in (0, 2, 19):
            self.check_fails(arrows_over, self.net, place, 1, error=NoHouse(place))
        self.check_fails(arrows_over, Net(20, {}), 0, 0, error=NoHouse(0))


class ChangedNetTest(PiecesCase):
    def test_the_same_after_the_net_has_changed(self):
        net = self.net
        self.check_tells(pieces, net, result=[[1, 4, 12, 14, 15], [3, 5, 9], [18]])
        net.hold(12, 14)
        self.check_tells(ring_of, net, 15, result=[1, 12, 14, 4])
        self.check_tells(on_ring, net, 14, result=True)
        self.check_tells(gate_of, net, 15, result=14)
        self.check_tells(turns_of, net, 1, result=2)
        self.check_tells(arrows_over, net, 1, 13, result=[4, 12])
        net.hold(4, 18)
        self.check_tells(pieces, net, result=[[1, 4, 12, 14, 15, 18], [3, 5, 9]])
        self.check_tells(ring_of, net, 1, result=[18])
        self.check_tells(on_ring, net, 1, result=False)
        net.admit(0, 3)
        self.check_tells(pieces, net, result=[[0, 3, 5, 9], [1, 4, 12, 14, 15, 18]])
        self.check_tells(least_of, net, 9, result=0)
        net.take_out(0)
        self.check_fails(gate_of, net, 0, error=NoHouse(0))
        self.check_tells(least_of, net, 9, result=3)


class ModelTest(NetCase):
    def test_against_the_model(self):
        chance = random.Random(27)
        for net in mixed_nets(chance, 60):
            model = Model(net)
            self.check_tells(pieces, net, result=[list(piece) for piece in model.pieces()])
            for house in net.houses():
                self.check_house(net, model, house)

    def check_house(self, net, model, house):
        ring = model.ring(house)
        self.check_tells(ring_of, net, house, result=ring)
        self.check_tells(on_ring, net, house, result=house in ring)
        gate = next(stop for stop, _ in model.stops(house, len(model.nexts)) if stop in ring)
        self.check_tells(gate_of, net, house, result=gate)
        self.check_tells(piece_of, net, house, result=model.piece(house))
        self.check_tells(least_of, net, house, result=model.piece(house)[0])
        self.check_tells(turns_of, net, house, result=model.turns(house))
        for other in net.houses():
            self.check_tells(way, net, house, other, result=model.way(house, other))
            self.check_tells(way_length, net, house, other, result=model.way_length(house, other))
        for distance in range(-1, 4 * net.size + 2):
            result = model.house_at(house, distance)
            self.check_tells(house_at, net, house, distance, result=result)
        for place in range(net.size):
            arrows = arrows_over(net, house, place)
            self.assertEqual(len(arrows), model.turns(house))
            covered = [u for u in ring if model.far(u, place) <= model.reach(u)]
            self.check_tells(arrows_over, net, house, place, result=sorted(covered))
