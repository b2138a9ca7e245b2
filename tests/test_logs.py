"""Points 48 to 50: faithful changes and logs."""

import random

from net_case import NetCase, all_nexts, mixed_nets, ring_nexts, true_net
from piece_model import Model
from ringlaps.calm import each_held_once
from ringlaps.ends import told_end
from ringlaps.errors import NoHouse
from ringlaps.logs import apply_changes, first_unfaithful, is_faithful
from ringlaps.marks import marks_of
from ringlaps.net import Net
from ringlaps.pieces import pieces
from ringlaps.sayings import holds_true


def ring_net():
    """Return a net of a ring of two turns with a tail."""
    return Net(10, {1: 7, 4: 1, 7: 4, 8: 4})


def model_is_faithful(net, house, target):
    model = Model(net)
    following = model.nexts[house]
    if not model.is_between(house, target, following):
        return False
    return model.is_true((target, following, model.far(target, following)))


def true_sayings(net):
    """Return all true sayings up to a length that goes round every ring."""
    model = Model(net)
    steps = 2 * len(model.nexts) + 1
    return [(u, x, s) for u in net.houses() for x, s in model.stops(u, steps)[1:]]


class FaithfulTest(NetCase):
    def test_example(self):
        net = ring_net()
        self.check_tells(is_faithful, net, 7, 8, result=True)
        self.check_tells(is_faithful, net, 7, 1, result=False)
        self.check_tells(is_faithful, net, 4, 7, result=False)
        self.check_tells(first_unfaithful, net, [(7, 8), (8, 1)], result=1)

    def test_target_that_lies_between_and_is_faithful(self):
        net = Net(10, {1: 1, 4: 1, 7: 4})
        self.check_tells(is_faithful, net, 1, 4, result=True)
        self.check_tells(is_faithful, net, 4, 7, result=False)
        self.check_tells(is_faithful, net, 1, 7, result=False)
        net.hold(7, 1)
        self.check_tells(is_faithful, net, 1, 7, result=True)
        self.check_tells(is_faithful, net, 4, 7, result=True)

    def test_target_whose_way_comes_to_the_next_by_several_steps(self):
        net = Net(10, {1: 8, 3: 5, 5: 6, 6: 8, 8: 1})
        self.check_tells(is_faithful, net, 1, 3, result=True)
        net.hold(5, 3)
        self.check_tells(is_faithful, net, 1, 3, result=False)

    def test_target_of_another_turn_or_piece(self):
        # 4 lies between 1 and 7, but comes to 7 only after more than a turn; 5 never does.
        net = Net(10, {1: 7, 4: 1, 7: 4, 5: 5})
        self.check_tells(is_faithful, net, 1, 4, result=False)
        self.check_tells(is_faithful, net, 1, 5, result=False)

    def test_target_that_does_not_lie_between(self):
        net = Net(10, {1: 4, 4: 7, 7: 1, 9: 1, 3: 4})
        for house, target in [(1, 7), (1, 9), (4, 1), (4, 9), (4, 3), (7, 3), (9, 7)]:
            self.check_tells(is_faithful, net, house, target, result=False)
        self.check_tells(is_faithful, net, 1, 3, result=True)
        self.check_tells(is_faithful, net, 7, 9, result=True)

    def test_house_itself_and_its_next(self):
        net = Net(10, {1: 4, 4: 1, 7: 7})
        for house, target in [(1, 1), (1, 4), (4, 4), (4, 1), (7, 7)]:
            self.check_tells(is_faithful, net, house, target, result=False)

    def test_befores_and_letters_do_not_count(self):
        net = Net(10, {1: 1, 4: 1}, befores={1: 4, 4: 1}, letters=[("answer", 4, 1, 4)])
        self.check_tells(is_faithful, net, 1, 4, result=True)
        self.check_tells(is_faithful, net, 4, 1, result=False)

    def test_places_without_a_house(self):
        net = ring_net()
        for place in (0, 2, 9, 10, -1):
            self.check_fails(is_faithful, net, place, 4, error=NoHouse(place))
            self.check_fails(is_faithful, net, 4, place, error=NoHouse(place))
        self.check_fails(is_faithful, net, 2, 5, error=NoHouse(2))
        self.check_fails(is_faithful, net, 5, 2, error=NoHouse(5))
        self.check_fails(is_faithful, Net(10, {}), 0, 0, error=NoHouse(0))

    def test_against_the_model(self):
        chance = random.Random(48)
        for net in mixed_nets(chance, 80):
            for house in net.houses():
                for target in net.houses():
                    result = model_is_faithful(net, house, target)
                    self.check_tells(is_faithful, net, house, target, result=result)

    def test_faithful_changes_keep_exactly_what_is_true(self):
        for size, houses in [(4, [0, 1, 3]), (5, [0, 1, 2, 4])]:
            for nexts in all_nexts(houses):
                self.check_changes(Net(size, nexts))

    def check_changes(self, net):
        truths = true_sayings(net)
        model = Model(net)
        left = 0
        for house in net.houses():
            following = net.next_of(house)
            between = [x for x in net.houses() if model.is_between(house, x, following)]
            for target in between:
                faithful = is_faithful(net, house, target)
                left += faithful
                changed = net.clone()
                changed.hold(house, target)
                self.assertEqual(all(holds_true(changed, saying) for saying in truths), faithful)
                told = (house, following, model.reach(house))
                self.assertEqual(holds_true(changed, told), faithful)
        self.assertEqual(left == 0, each_held_once(net))

    def test_faithful_changes_come_to_the_told_end(self):
        chance = random.Random(49)
        changes = 0
        for _ in range(60):
            net = Net(11, true_net(chance, 11).nexts())
            end, found = told_end(net), pieces(net)
            marks = [marks_of(net, piece[0]) for piece in found]
            while not each_held_once(net):
                house, target = chance.choice(net.houses()), chance.choice(net.houses())
                if is_faithful(net, house, target):
                    net.hold(house, target)
                    changes += 1
                    self.assertEqual(pieces(net), found)
                    self.assertEqual([marks_of(net, piece[0]) for piece in found], marks)
            self.assertEqual(net.nexts(), end)
        self.assertGreater(changes, 100)


class LogTest(NetCase):
    def check_log(self, net, changes, *, first, old, nexts):
        """Check both functions with one log; the net is changed by it in the end."""
        passed = list(changes)
        self.check_tells(first_unfaithful, net, changes, result=first)
        befores, letters = net.befores(), net.letters()
        self.assertEqual(apply_changes(net, changes), old)
        self.assertEqual(changes, passed)
        self.assertEqual(net.nexts(), nexts)
        self.assertEqual((net.befores(), net.letters()), (befores, letters))

    def star(self, **more):
        return Net(10, {1: 1, 4: 1, 7: 1}, **more)

    def test_empty_log(self):
        self.check_log(self.star(), [], first=None, old=[], nexts={1: 1, 4: 1, 7: 1})
        self.check_log(Net(10, {}), [], first=None, old=[], nexts={})

    def test_log_of_faithful_changes(self):
        net = self.star(befores={4: 1}, letters=[("tell", 1, 7), ("ask", 4, 1)])
        log = [(4, 7), (1, 7), (1, 4)]
        self.check_log(net, log, first=None, old=[1, 1, 7], nexts={1: 4, 4: 7, 7: 1})

    def test_unfaithful_pair_first_in_the_middle_and_last(self):
        nexts = {1: 4, 4: 7, 7: 4}
        log = [(7, 4), (1, 4), (4, 7)]
        self.check_log(self.star(), log, first=0, old=[1, 1, 1], nexts=nexts)
        log = [(1, 4), (7, 4), (4, 7)]
        self.check_log(self.star(), log, first=1, old=[1, 1, 1], nexts=nexts)
        log = [(1, 4), (4, 7), (7, 4)]
        self.check_log(self.star(), log, first=2, old=[1, 1, 1], nexts=nexts)

    def test_same_pair_twice(self):
        log = [(1, 4), (1, 4)]
        self.check_log(self.star(), log, first=1, old=[1, 4], nexts={1: 4, 4: 1, 7: 1})
        log = [(1, 1)]
        self.check_log(self.star(), log, first=0, old=[1], nexts={1: 1, 4: 1, 7: 1})

    def test_pair_that_is_faithful_only_after_others(self):
        # At first 4 does not come to 9; when 7 has 9 as its next, it does.
        net = Net(10, {1: 9, 4: 7, 7: 1, 9: 1})
        self.check_log(net, [(1, 4)], first=0, old=[9], nexts={1: 4, 4: 7, 7: 1, 9: 1})
        net = Net(10, {1: 9, 4: 7, 7: 1, 9: 1})
        log = [(7, 9), (1, 4)]
        self.check_log(net, log, first=None, old=[1, 9], nexts={1: 4, 4: 7, 7: 9, 9: 1})

    def test_pair_that_is_unfaithful_only_after_others(self):
        # 1 could have taken 7 as its next as long as its next was beyond 7.
        self.check_tells(is_faithful, self.star(), 1, 7, result=True)
        log = [(1, 4), (1, 7)]
        self.check_log(self.star(), log, first=1, old=[1, 4], nexts={1: 7, 4: 1, 7: 1})

    def test_log_goes_on_behind_an_unfaithful_pair(self):
        log = [(7, 7), (4, 4), (1, 7)]
        self.check_log(self.star(), log, first=0, old=[1, 1, 1], nexts={1: 7, 4: 4, 7: 7})

    def test_befores_that_are_untrue_stay(self):
        net = self.star(befores={7: 4, 1: 4}, letters=[("answer", 1, 4, 7)])
        self.check_log(net, [(4, 7)], first=None, old=[1], nexts={1: 1, 4: 7, 7: 1})

    def test_strangers(self):
        good = [(1, 4), (4, 7)]
        for function in (apply_changes, first_unfaithful):
            for place in (0, 9, 10, 11, -1):
                for at in range(3):
                    for pair in [(place, 1), (1, place), (place, 2)]:
                        log = [*good[:at], pair, *good[at:]]
                        self.check_fails(function, self.star(), log, error=NoHouse(place))
            # An unfaithful pair ahead of the stranger makes no difference.
            self.check_fails(function, self.star(), [(4, 4), (7, 4), (1, 2)], error=NoHouse(2))
            self.check_fails(function, self.star(), [(1, 2), (3, 1)], error=NoHouse(2))
            self.check_fails(function, self.star(), [(1, 4), (3, 2), (2, 3)], error=NoHouse(3))
            self.check_fails(function, Net(10, {}), [(0, 0)], error=NoHouse(0))

    def test_no_change_is_faithful_when_each_house_is_held_once(self):
        for nexts in (ring_nexts([1, 4, 7]), ring_nexts([9, 7, 4, 1]), ring_nexts([1, 4], [7])):
            net = Net(10, nexts)
            for house in net.houses():
                for target in net.houses():
                    self.check_tells(first_unfaithful, net, [(house, target)], result=0)

    def test_against_the_model(self):
        chance = random.Random(50)
        for net in mixed_nets(chance, 150):
            houses = net.houses()
            log = [(chance.choice(houses), chance.choice(houses)) for _ in range(6)]
            copied, old, faithful = net.clone(), [], []
            for house, target in log:
                faithful.append(model_is_faithful(copied, house, target))
                old.append(copied.hold(house, target))
            first = None if all(faithful) else faithful.index(False)
            self.check_log(net, log, first=first, old=old, nexts=copied.nexts())

    def test_long_logs(self):
        chance = random.Random(51)
        net = Net(1000000000, {place: 0 for place in range(40)})
        log = []
        copied = net.clone()
        while not each_held_once(copied):
            house, target = chance.randrange(40), chance.randrange(40)
            if is_faithful(copied, house, target):
                log.append((house, target))
                copied.hold(house, target)
        self.check_tells(first_unfaithful, net, log, result=None)
        self.check_tells(first_unfaithful, net, [*log, (5, 6)], result=len(log))
        apply_changes(net, log)
        self.assertEqual(net.nexts(), ring_nexts(list(range(40))))
