"""Points 62 to 64: the meaning of a net."""

import random

from net_case import CALLS_WITH_ADMIT, NetCase, mixed_nets, random_call, ring_nexts, true_net
from piece_model import Model
from ringlaps.calm import calm_round, settle
from ringlaps.clear import clear_towards
from ringlaps.cures import let_go
from ringlaps.errors import NoHouse, OffCircle, TakenPlace, Untold
from ringlaps.marks import marks_of
from ringlaps.meaning import admitted, meaning, released, row_marks
from ringlaps.net import Net
from ringlaps.pieces import on_ring
from ringlaps.sayings import piece_is_true

GREAT = 1000000000

# The row of a ring of two turns on a circle of 10 places, whose marks are 1, 7, 8 and 14.
TWO_TURNS = (2, (1, 7, 8, 4))


def settled_meaning(net):
    """Return what the pieces of a settled net are: their turns and rings."""
    copied = net.clone()
    settle(copied)
    model = Model(copied)
    return [(model.turns(piece[0]), tuple(model.ring(piece[0]))) for piece in model.pieces()]


def told_nets(chance, count):
    """Return nets that have a meaning; in some of them houses have let go, towards which all is clear."""
    found = []
    while len(found) < count:
        net = true_net(chance, chance.choice([1, 3, 5, 8, 11]))
        rings = [house for house in net.houses() if on_ring(net, house)]
        if len(found) % 2:
            let_go(net, chance.choice(rings))
            for _ in range(chance.randrange(10)):
                random_call(chance, net, CALLS_WITH_ADMIT)
        found.append(net)
    return found


class MeaningCase(NetCase):
    def check_pure(self, function, *args, result):
        """Check what a function of plain values returns, and that it leaves what it is passed."""
        passed = [list(arg) if isinstance(arg, list) else arg for arg in args]
        for _ in range(2):
            found = function(*args)
            self.check_same(found, result)
            found.clear()
            self.assertEqual(list(args), passed)

    def check_refused(self, function, *args, error):
        passed = [list(arg) if isinstance(arg, list) else arg for arg in args]
        with self.subTest(args=args), self.assertRaises(type(error)) as caught:
            function(*args)
        self.assertEqual(vars(caught.exception), vars(error))
        self.assertEqual(list(args), passed)


class MeaningTest(MeaningCase):
    def test_example(self):
        net = Net(10, {1: 7, 4: 1, 7: 4})
        self.check_tells(meaning, net, result=[(2, (1, 7, 4))])
        net.admit(8, 4)
        self.check_tells(meaning, net, result=[(2, (1, 7, 8, 4))])
        let_go(net, 4)
        self.check_tells(meaning, net, result=[(1, (1, 4, 7, 8))])
        calm_round(net)
        self.check_tells(meaning, net, result=[(1, (1, 4, 7, 8))])

    def test_true_pieces(self):
        self.check_tells(meaning, Net(10, {}), result=[])
        self.check_tells(meaning, Net(10, {3: 3}), result=[(1, (3,))])
        self.check_tells(meaning, Net(10, {1: 1, 4: 1, 7: 4}), result=[(1, (1, 4, 7))])
        nexts = {**ring_nexts([12, 16, 14], [3, 9, 6], [5]), 0: 12, 7: 9}
        told = [(2, (0, 12, 16, 14)), (2, (3, 7, 9, 6)), (1, (5,))]
        self.check_tells(meaning, Net(20, nexts), result=told)

    def test_piece_that_is_clear_only(self):
        # What 4 says of its before was true before 1 let go, and does no harm now.
        net = Net(10, {1: 1, 4: 1, 7: 4, 2: 2}, befores={7: 1})
        self.check_tells(piece_is_true, net, 1, result=False)
        self.check_tells(meaning, net, result=[(1, (1, 4, 7)), (1, (2,))])

    def test_net_of_which_nothing_is_told(self):
        nexts = {**ring_nexts([1, 7, 4], [3, 9, 6]), 0: 3, 8: 8}
        for befores, place in [({7: 4}, 1), ({6: 3, 7: 4}, 0), ({6: 3}, 0), ({8: 4}, 1), ({8: 9}, 0)]:
            self.check_fails(meaning, Net(10, nexts, befores=befores), error=Untold(place))
        # Each piece that an astray saying names is untold; here the other one is the first.
        net = Net(10, {1: 1, 4: 4, 7: 7}, letters=[("tell", 7, 4)])
        self.check_fails(meaning, net, error=Untold(4))

    def test_against_the_model(self):
        chance = random.Random(62)
        untold = clear = 0
        for net in mixed_nets(chance, 400):
            model = Model(net)
            told = model.meaning()
            if None in told:
                place = model.pieces()[told.index(None)][0]
                self.check_fails(meaning, net, error=Untold(place))
                untold += 1
            else:
                self.check_tells(meaning, net, result=told)
                self.assertEqual(told, settled_meaning(net))
                clear += bool(model.untrue())
        self.assertGreater(min(untold, clear), 20)

    def test_calls_that_leave_it(self):
        chance = random.Random(63)
        for net in told_nets(chance, 80):
            told = meaning(net)
            for _ in range(25):
                random_call(chance, net)
                self.check_tells(meaning, net, result=told)
            calm_round(net)
            self.check_tells(meaning, net, result=told)
            settle(net)
            self.check_tells(meaning, net, result=told)
            self.assertEqual(settled_meaning(net), told)


class AdmittedTest(MeaningCase):
    def test_place_as_host(self):
        self.check_pure(admitted, 10, [], 3, 3, result=[(1, (3,))])
        told = [(1, (3,)), TWO_TURNS]
        self.check_pure(admitted, 10, [TWO_TURNS], 0, 0, result=[(1, (0,)), TWO_TURNS])
        self.check_pure(admitted, 10, [TWO_TURNS], 3, 3, result=told[::-1])
        result = [TWO_TURNS, (1, (3,)), (1, (5,))]
        self.check_pure(admitted, 10, [TWO_TURNS, (1, (5,))], 3, 3, result=result)
        self.check_pure(admitted, 1, [], 0, 0, result=[(1, (0,))])

    def test_row_of_one_turn(self):
        told = [(1, (2, 5, 9))]
        for host in (2, 5, 9):
            self.check_pure(admitted, 10, told, 3, host, result=[(1, (2, 3, 5, 9))])
            self.check_pure(admitted, 10, told, 6, host, result=[(1, (2, 5, 6, 9))])
            self.check_pure(admitted, 10, told, 0, host, result=[(1, (0, 2, 5, 9))])
            self.check_pure(admitted, 11, told, 10, host, result=[(1, (2, 5, 9, 10))])

    def test_row_of_several_turns(self):
        # At the mark 14 - 6, 7 - 9, 14 - 1, 7 - 1, 14 - 4 ..: the host tells the turn.
        for place, host, row in [
            (9, 4, (1, 7, 8, 9, 4)),
            (9, 1, (1, 7, 8, 4, 9)),
            (3, 4, (1, 7, 8, 3, 4)),
            (3, 7, (1, 3, 7, 8, 4)),
            (2, 1, (1, 7, 8, 2, 4)),
            (2, 8, (1, 2, 7, 8, 4)),
            (6, 7, (1, 6, 7, 8, 4)),
            (6, 1, (1, 7, 8, 4, 6)),
            (5, 4, (1, 5, 7, 8, 4)),
        ]:
            self.check_pure(admitted, 10, [TWO_TURNS], place, host, result=[(2, row)])

    def test_place_below_all_houses_of_the_row(self):
        # 0 before 1 begins the row where it began; 0 before 4 begins it in the other turn.
        self.check_pure(admitted, 10, [TWO_TURNS], 0, 1, result=[(2, (0, 1, 7, 8, 4))])
        self.check_pure(admitted, 10, [TWO_TURNS], 0, 7, result=[(2, (0, 1, 7, 8, 4))])
        self.check_pure(admitted, 10, [TWO_TURNS], 0, 4, result=[(2, (0, 4, 1, 7, 8))])
        self.check_pure(admitted, 10, [(1, (3,))], 0, 3, result=[(1, (0, 3))])

    def test_other_pairs_stay_and_come_by_their_least_houses(self):
        told = [TWO_TURNS, (1, (2, 9)), (1, (5,))]
        self.check_pure(admitted, 10, told, 6, 2, result=[TWO_TURNS, (1, (2, 6, 9)), (1, (5,))])
        self.check_pure(admitted, 10, told, 0, 5, result=[(1, (0, 5)), TWO_TURNS, (1, (2, 9))])
        result = [TWO_TURNS, (1, (2, 9)), (1, (3, 5))]
        self.check_pure(admitted, 10, told, 3, 5, result=result)
        self.check_pure(admitted, 10, [(1, (4,)), (1, (5,))], 3, 5, result=[(1, (3, 5)), (1, (4,))])

    def test_checks_in_their_order(self):
        told = [TWO_TURNS, (1, (2, 9))]
        for place in (-1, 10, 11, GREAT):
            for host in (place, 1, 3, 20):
                self.check_refused(admitted, 10, told, place, host, error=OffCircle(place))
        for place in (1, 7, 8, 4, 2, 9):
            for host in (place, 1, 3, 20):
                self.check_refused(admitted, 10, told, place, host, error=TakenPlace(place))
        for host in (0, 3, 5, 10, -1):
            self.check_refused(admitted, 10, told, 6, host, error=NoHouse(host))
        self.check_refused(admitted, 10, [], 6, 5, error=NoHouse(5))
        self.check_refused(admitted, 10, [], 10, 10, error=OffCircle(10))

    def test_agrees_with_the_net(self):
        chance = random.Random(64)
        for net in told_nets(chance, 100):
            told = meaning(net)
            for place in range(net.size):
                for host in [*net.houses(), place]:
                    if place not in net.houses():
                        changed = net.clone()
                        changed.admit(place, host)
                        result = meaning(changed)
                        self.check_pure(admitted, net.size, told, place, host, result=result)


class ReleasedTest(MeaningCase):
    def test_row_of_several_turns(self):
        for house in (1, 4, 7, 8):
            self.check_pure(released, 10, [TWO_TURNS], house, result=[(1, (1, 4, 7, 8))])
        self.check_pure(released, 10, [(3, (1, 9, 7, 4))], 9, result=[(1, (1, 4, 7, 9))])

    def test_row_of_one_turn(self):
        for house in (2, 5, 9):
            self.check_pure(released, 10, [(1, (2, 5, 9))], house, result=[(1, (2, 5, 9))])
        self.check_pure(released, 10, [(1, (3,))], 3, result=[(1, (3,))])

    def test_other_pairs_stay(self):
        told = [(2, (0, 12, 16, 14)), (2, (3, 7, 9, 6)), (1, (5,))]
        result = [(2, (0, 12, 16, 14)), (1, (3, 6, 7, 9)), (1, (5,))]
        for house in (3, 6, 7, 9):
            self.check_pure(released, 20, told, house, result=result)
        self.check_pure(released, 20, told, 5, result=told)
        result = [(1, (0, 12, 14, 16)), *told[1:]]
        for house in (0, 14):
            self.check_pure(released, 20, told, house, result=result)

    def test_house_that_stands_in_no_row(self):
        for house in (0, 2, 3, 10, -1):
            self.check_refused(released, 10, [TWO_TURNS, (1, (5,))], house, error=NoHouse(house))
        self.check_refused(released, 10, [], 0, error=NoHouse(0))

    def test_agrees_with_the_net(self):
        chance = random.Random(65)
        lapped = 0
        for net in told_nets(chance, 120):
            told = meaning(net)
            for house in net.houses():
                true_ring = on_ring(net, house) and piece_is_true(net, house)
                if true_ring or house in clear_towards(net, house):
                    changed = net.clone()
                    let_go(changed, house)
                    self.check_pure(released, net.size, told, house, result=meaning(changed))
                    lapped += meaning(changed) != told
        self.assertGreater(lapped, 20)


class RowMarksTest(MeaningCase):
    def test_row_marks(self):
        self.check_pure(row_marks, 10, 2, (1, 7, 8, 4), result=[1, 7, 8, 14])
        self.check_pure(row_marks, 10, 1, (2, 5, 9), result=[2, 5, 9])
        self.check_pure(row_marks, 10, 3, (1, 9, 7, 4), result=[1, 9, 17, 24])
        self.check_pure(row_marks, 10, 1, (6,), result=[6])
        self.check_pure(row_marks, 1, 1, (0,), result=[0])
        row = tuple([0, *range(39, 0, -1)])
        marks = [0, *[39 + at * (GREAT - 1) for at in range(39)]]
        self.check_pure(row_marks, GREAT, 39, row, result=marks)

    def test_marks_of_true_pieces(self):
        chance = random.Random(66)
        for _ in range(80):
            net = true_net(chance, chance.choice([1, 3, 5, 8, 11]))
            for turns, row in meaning(net):
                marks = marks_of(net, row[0])
                result = [marks[house] for house in row]
                self.check_pure(row_marks, net.size, turns, row, result=result)
