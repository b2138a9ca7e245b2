"""Points 37 to 39: marks, mark rows, and the judgement of marks."""

import random

from net_case import NetCase, mixed_nets, ring_nexts, true_net
from piece_model import Model
from ringlaps.errors import NoHouse
from ringlaps.marks import judge_marks, mark_row, marks_of
from ringlaps.net import Net
from ringlaps.pieces import least_of, turns_of
from ringlaps.sayings import holds_true, sayings

GREAT = 1000000000


def ring_net():
    """Return a net of a ring of two turns with a tail."""
    return Net(10, {1: 7, 4: 1, 7: 4, 8: 4})


class MarksTest(NetCase):
    def test_example(self):
        net = ring_net()
        for house in (1, 4, 7, 8):
            self.check_tells(marks_of, net, house, result={1: 1, 4: 14, 7: 7, 8: 8})
            self.check_tells(mark_row, net, house, result=[1, 7, 8, 4])

    def test_ring_of_one_turn(self):
        net = Net(10, ring_nexts([3, 4, 9]))
        self.check_tells(marks_of, net, 9, result={3: 3, 4: 4, 9: 9})
        self.check_tells(mark_row, net, 9, result=[3, 4, 9])
        self.check_tells(marks_of, Net(10, {6: 6}), 6, result={6: 6})
        self.check_tells(mark_row, Net(10, {6: 6}), 6, result=[6])
        self.check_tells(marks_of, Net(1, {0: 0}), 0, result={0: 0})

    def test_ring_of_several_turns(self):
        net = Net(10, ring_nexts([9, 7, 4, 1]))
        self.check_tells(marks_of, net, 7, result={1: 1, 4: 24, 7: 17, 9: 9})
        self.check_tells(mark_row, net, 7, result=[1, 9, 7, 4])

    def test_tails_of_a_ring_of_two_turns(self):
        # The way from 0 to 5, 2 and 1 is 21 long; that from 3 to 1 is 8 long.
        net = Net(10, {1: 7, 7: 2, 2: 1, 5: 2, 0: 5, 3: 1})
        self.check_tells(marks_of, net, 1, result={0: 0, 1: 1, 2: 12, 3: 13, 5: 5, 7: 7})
        self.check_tells(mark_row, net, 2, result=[0, 1, 5, 7, 2, 3])

    def test_least_house_on_a_tail(self):
        net = Net(10, {0: 8, 8: 5, 5: 8})
        self.check_tells(marks_of, net, 5, result={0: 0, 5: 5, 8: 8})
        self.check_tells(mark_row, net, 8, result=[0, 5, 8])

    def test_tail_longer_than_the_ring(self):
        net = Net(10, {3: 3, 2: 3, 1: 2, 0: 1, 9: 9})
        self.check_tells(marks_of, net, 3, result={0: 0, 1: 1, 2: 2, 3: 3})
        net = Net(10, {0: 0, 1: 0, 2: 1, 3: 2, 4: 3})
        self.check_tells(marks_of, net, 0, result={0: 0, 1: 1, 2: 2, 3: 3, 4: 4})
        self.check_tells(mark_row, net, 2, result=[0, 1, 2, 3, 4])

    def test_several_pieces(self):
        net = Net(10, {1: 7, 4: 1, 7: 4, 2: 9, 9: 2, 5: 9})
        for house in (1, 4, 7):
            self.check_tells(marks_of, net, house, result={1: 1, 4: 14, 7: 7})
        for house in (2, 5, 9):
            self.check_tells(marks_of, net, house, result={2: 2, 5: 5, 9: 9})
            self.check_tells(mark_row, net, house, result=[2, 5, 9])

    def test_great_circle(self):
        net = Net(GREAT, ring_nexts(list(range(40, 0, -1))))
        marks = {1: 1, **{house: house + (40 - house) * GREAT for house in range(2, 41)}}
        self.check_tells(marks_of, net, 17, result=marks)
        self.check_tells(mark_row, net, 17, result=[1, *range(40, 1, -1)])

    def test_places_without_a_house(self):
        for function in (marks_of, mark_row):
            for place in (0, 2, 9, 10, -1):
                self.check_fails(function, ring_net(), place, error=NoHouse(place))
            self.check_fails(function, Net(10, {}), 0, error=NoHouse(0))

    def test_against_the_model(self):
        chance = random.Random(37)
        for net in mixed_nets(chance, 120):
            model = Model(net)
            for house in net.houses():
                self.check_tells(marks_of, net, house, result=model.marks(house))
                self.check_tells(mark_row, net, house, result=model.row(house))

    def test_what_marks_are(self):
        chance = random.Random(38)
        for _ in range(80):
            net = true_net(chance, chance.choice([3, 5, 8, 11]))
            for house in net.houses():
                self.check_marks(net, house)

    def check_marks(self, net, house):
        model = Model(net)
        marks = marks_of(net, house)
        lap = turns_of(net, house) * net.size
        self.assertEqual(marks[least_of(net, house)], least_of(net, house))
        self.assertEqual(len(set(marks.values())), len(marks))
        for other, mark in marks.items():
            self.assertTrue(0 <= mark < lap)
            self.assertEqual(mark % net.size, other)
            following = net.next_of(other)
            self.assertEqual(marks[following], (mark + model.reach(other)) % lap)
        for start, end, length in sayings(net):
            self.assertTrue(holds_true(net, (start, end, length)))
            if start in marks:
                self.assertEqual((marks[end] - marks[start] - length) % lap, 0)


class JudgeMarksTest(NetCase):
    def check(self, net, turns, marks, result):
        self.check_tells(judge_marks, net, turns, marks, result=result)

    def test_right_marks(self):
        self.check(ring_net(), 2, {1: 1, 4: 14, 7: 7, 8: 8}, True)
        self.check(ring_net(), 2, {8: 8, 4: 14, 1: 1, 7: 7}, True)
        self.check(Net(10, {6: 6}), 1, {6: 6}, True)
        self.check(Net(1, {0: 0}), 1, {0: 0}, True)

    def test_marks_shifted_by_a_multiple_of_the_size(self):
        self.check(ring_net(), 2, {1: 11, 4: 4, 7: 17, 8: 18}, True)
        net = Net(10, ring_nexts([9, 7, 4, 1]))
        self.check(net, 3, {1: 1, 4: 24, 7: 17, 9: 9}, True)
        self.check(net, 3, {1: 11, 4: 4, 7: 27, 9: 19}, True)
        self.check(net, 3, {1: 21, 4: 14, 7: 7, 9: 29}, True)

    def test_marks_shifted_by_something_else(self):
        for shift in [*range(1, 10), *range(11, 20)]:
            marks = {house: (mark + shift) % 20 for house, mark in {1: 1, 4: 14, 7: 7, 8: 8}.items()}
            self.check(ring_net(), 2, marks, False)
        for shift in range(1, 10):
            self.check(Net(10, {6: 6}), 1, {6: (6 + shift) % 10}, False)

    def test_one_mark_changed(self):
        right = {1: 1, 4: 14, 7: 7, 8: 8}
        for house in right:
            for mark in range(-20, 41):
                marks = {**right, house: mark}
                self.check(ring_net(), 2, marks, marks == right)

    def test_house_missing(self):
        right = {1: 1, 4: 14, 7: 7, 8: 8}
        for house in right:
            rest = {other: mark for other, mark in right.items() if other != house}
            self.check(ring_net(), 2, rest, False)

    def test_place_that_is_no_house(self):
        right = {1: 1, 4: 14, 7: 7, 8: 8}
        for place in (0, 2, 5, 9, 10, 11, -1):
            self.check(ring_net(), 2, {**right, place: place % 20}, False)
            self.check(ring_net(), 2, {place: place % 20}, False)

    def test_marks_of_two_pieces_together(self):
        net = Net(10, {1: 4, 4: 1, 7: 9, 9: 7})
        self.check(net, 1, {1: 1, 4: 4}, True)
        self.check(net, 1, {7: 7, 9: 9}, True)
        self.check(net, 1, {1: 1, 4: 4, 7: 7, 9: 9}, False)
        self.check(net, 1, {1: 1, 7: 7}, False)
        self.check(net, 1, {1: 1, 4: 4, 7: 7}, False)

    def test_wrong_turns(self):
        marks = {1: 1, 4: 14, 7: 7, 8: 8}
        for turns in (0, -1, -2, 1, 3, 4, 10**30):
            self.check(ring_net(), turns, marks, False)
        for turns in (0, -1, 2, 10**30):
            self.check(Net(10, {6: 6}), turns, {6: 6}, False)
        # On a ring of one turn these would be marks for two turns, too.
        self.check(Net(10, ring_nexts([1, 4, 7])), 2, {1: 1, 4: 4, 7: 7}, False)

    def test_values_outside_of_the_lap(self):
        right = {1: 1, 4: 14, 7: 7, 8: 8}
        for shift in (-40, -20, 20, 40):
            self.check(ring_net(), 2, {house: mark + shift for house, mark in right.items()}, False)
            self.check(ring_net(), 2, {**right, 7: 7 + shift}, False)
        self.check(ring_net(), 2, {1: 11, 4: 24, 7: 17, 8: 18}, False)
        self.check(ring_net(), 2, {1: -9, 4: 4, 7: -3, 8: -2}, False)
        self.check(Net(10, {6: 6}), 1, {6: 16}, False)
        self.check(Net(10, {6: 6}), 1, {6: -4}, False)

    def test_empty_dict_and_empty_net(self):
        for turns in (-1, 0, 1, 2):
            self.check(ring_net(), turns, {}, False)
            self.check(Net(10, {}), turns, {}, False)
            self.check(Net(10, {}), turns, {1: 1}, False)

    def test_every_dict_of_a_small_net(self):
        net = Net(2, {0: 0, 1: 0})
        for turns in (0, 1, 2):
            for low in range(-2, 5):
                for high in range(-2, 5):
                    right = (turns, low, high) == (1, 0, 1)
                    self.check(net, turns, {0: low, 1: high}, right)

    def test_marks_that_the_program_finds(self):
        chance = random.Random(39)
        for net in mixed_nets(chance, 60):
            for house in net.houses():
                turns = turns_of(net, house)
                lap = turns * net.size
                for shift in range(-lap, lap + 1):
                    marks = {other: (mark + shift) % lap for other, mark in marks_of(net, house).items()}
                    self.check(net, turns, marks, shift % net.size == 0)
