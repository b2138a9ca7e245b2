"""Points 76 to 79: look-ups now, and look-ups in the end."""

import random

from net_case import CALLS_WITH_ADMIT, NetCase, mixed_nets, random_call, ring_nexts, true_net
from piece_model import Model
from ringlaps.calm import settle
from ringlaps.clear import clear_towards
from ringlaps.cures import let_go
from ringlaps.errors import NoHouse, OffCircle, Untold
from ringlaps.lookups import answer, ring_answers, told_answer
from ringlaps.net import Net
from ringlaps.pieces import least_of, on_ring, turns_of
from ringlaps.sayings import piece_is_true

GREAT = 1000000000

# A ring of two turns with a tail, whose end is the ring 1, 7, 8, 4 with the marks 1, 7, 8, 14.
NEXTS = {1: 7, 4: 1, 7: 4, 8: 4}


def answer_of(model, house, key):
    """Walk the way step by step until it has come as far as the key."""
    found, length = model.nexts[house], model.reach(house)
    while length < model.far(house, key):
        found, length = model.nexts[found], length + model.reach(found)
    return (found, length)


class LookupCase(NetCase):
    def check_all_keys(self, function, net, house, results):
        """Check the results for the keys from 0 on."""
        self.assertEqual(len(results), net.size)
        for key, result in enumerate(results):
            self.check_tells(function, net, house, key, result=result)

    def check_wrong_arguments(self, function):
        net = Net(10, NEXTS)
        for house in (0, 2, 9, 10, -1):
            for key in (0, 4, 9):
                self.check_fails(function, net, house, key, error=NoHouse(house))
        for key in (-1, 10, 11, 14, -9, GREAT):
            for house in (1, 8):
                self.check_fails(function, net, house, key, error=OffCircle(key))
        # No house comes ahead of a key off the circle.
        for house, key in [(2, -1), (9, 10), (-1, -1), (10, 10), (14, 14)]:
            self.check_fails(function, net, house, key, error=NoHouse(house))
        self.check_fails(function, Net(10, {}), 0, 0, error=NoHouse(0))


class AnswerTest(LookupCase):
    def test_example(self):
        net = Net(10, NEXTS)
        self.check_tells(answer, net, 1, 2, result=(7, 6))
        self.check_tells(answer, net, 7, 2, result=(4, 7))
        self.check_tells(answer, net, 7, 8, result=(4, 7))
        self.check_tells(told_answer, net, 7, 8, result=(8, 1))
        self.check_tells(ring_answers, net, 8, 2, result=[4, 7])

    def test_all_keys_on_a_ring_of_one_turn(self):
        net = Net(10, ring_nexts([2, 5, 9]))
        two, five, nine = (2, 10), (5, 3), (9, 7)
        results = [two, two, two, five, five, five, nine, nine, nine, nine]
        self.check_all_keys(answer, net, 2, results)
        results = [(2, 3), (2, 3), (2, 3), (5, 6), (5, 6), (5, 6), (9, 10), (9, 10), (9, 10), (9, 10)]
        self.check_all_keys(answer, net, 9, results)

    def test_all_keys_on_a_ring_of_two_turns(self):
        # The way from 4 comes to 1 after 7, to 7 after 13; that from 7 comes to 4 after 7.
        net = Net(10, NEXTS)
        one, seven = (1, 7), (7, 13)
        self.check_all_keys(answer, net, 4, [one, one, seven, seven, seven, one, one, one, one, one])
        four, one = (4, 7), (1, 14)
        self.check_all_keys(answer, net, 7, [four, four, four, four, four, one, one, one, four, four])

    def test_house_off_the_ring(self):
        net = Net(10, NEXTS)
        four, one = (4, 6), (1, 13)
        self.check_all_keys(answer, net, 8, [four, four, four, four, four, one, one, one, one, four])

    def test_key_that_is_the_house_itself(self):
        for house, result in [(1, (4, 13)), (4, (7, 13)), (7, (1, 14)), (8, (1, 13))]:
            self.check_tells(answer, Net(10, NEXTS), house, house, result=result)
        self.check_tells(answer, Net(10, {3: 3}), 3, 3, result=(3, 10))
        self.check_tells(answer, Net(10, ring_nexts([2, 5])), 2, 2, result=(2, 10))

    def test_house_alone(self):
        self.check_all_keys(answer, Net(10, {3: 3}), 3, [(3, 10)] * 10)
        self.check_all_keys(answer, Net(1, {0: 0}), 0, [(0, 1)])
        self.check_tells(answer, Net(GREAT, {0: 0}), 0, GREAT - 1, result=(0, GREAT))

    def test_key_that_is_the_next(self):
        # The way has come to the key itself, which another house may answer for, too.
        for house, result in [(1, (7, 6)), (4, (1, 7)), (7, (4, 7)), (8, (4, 6))]:
            self.check_tells(answer, Net(10, NEXTS), house, result[0], result=result)

    def test_last_step_is_the_first_one_that_covers_the_key(self):
        chance = random.Random(76)
        for net in mixed_nets(chance, 150):
            model = Model(net)
            for house in net.houses():
                for key in range(net.size):
                    self.check_tells(answer, net, house, key, result=answer_of(model, house, key))
                    u = house
                    while model.far(u, key) > model.reach(u):
                        u = model.nexts[u]
                    self.assertEqual(answer(net, house, key)[0], model.nexts[u])

    def test_places_without_a_house_and_keys_off_the_circle(self):
        self.check_wrong_arguments(answer)

    def test_lengths_never_grow(self):
        chance = random.Random(78)
        shorter = 0
        for _ in range(60):
            net = true_net(chance, chance.choice([3, 5, 8, 11]))
            lengths = {}
            for _ in range(40):
                random_call(chance, net, CALLS_WITH_ADMIT, 8)
                for house in net.houses():
                    for key in range(net.size):
                        length = answer(net, house, key)[1]
                        earlier = lengths.get((house, key), length)
                        self.assertLessEqual(length, earlier)
                        shorter += length < earlier
                        lengths[house, key] = length
        self.assertGreater(shorter, 100)


class RingAnswersTest(LookupCase):
    def test_ring_of_one_turn(self):
        nexts = {**ring_nexts([2, 5, 9]), 7: 2, 0: 0}
        net = Net(10, nexts)
        for house in (2, 5, 9, 7):
            results = [[2], [2], [2], [5], [5], [5], [9], [9], [9], [9]]
            self.check_all_keys(ring_answers, net, house, results)
        self.check_all_keys(ring_answers, net, 0, [[0]] * 10)

    def test_ring_of_two_turns(self):
        net = Net(10, NEXTS)
        for house in NEXTS:
            results = [[1, 4]] * 2 + [[4, 7]] * 3 + [[1, 7]] * 3 + [[1, 4]] * 2
            self.check_all_keys(ring_answers, net, house, results)

    def test_ring_of_three_turns(self):
        net = Net(10, ring_nexts([1, 9, 7, 4]))
        self.check_tells(ring_answers, net, 9, 9, result=[1, 4, 9])
        self.check_tells(ring_answers, net, 9, 0, result=[1, 4, 7])
        self.check_tells(ring_answers, net, 9, 5, result=[1, 7, 9])
        net = Net(GREAT, ring_nexts(list(range(40, 0, -1))))
        self.check_tells(ring_answers, net, 9, 9, result=[*range(1, 8), *range(9, 41)])

    def test_houses_off_the_ring_give_no_answers(self):
        # 8 answers 0 for the key 9, but no house of the ring does.
        net = Net(10, {1: 5, 5: 1, 8: 0, 0: 1})
        self.check_tells(answer, net, 8, 9, result=(0, 2))
        self.check_tells(ring_answers, net, 8, 9, result=[1])

    def test_as_many_as_turns(self):
        chance = random.Random(77)
        lapped = 0
        for net in mixed_nets(chance, 200):
            model = Model(net)
            for house in net.houses():
                lapped += model.turns(house) > 1
                for key in range(net.size):
                    found = sorted({answer_of(model, u, key)[0] for u in model.ring(house)})
                    self.assertEqual(len(found), model.turns(house))
                    self.check_tells(ring_answers, net, house, key, result=found)
        self.assertGreater(lapped, 50)

    def test_places_without_a_house_and_keys_off_the_circle(self):
        self.check_wrong_arguments(ring_answers)


class ToldAnswerTest(LookupCase):
    def test_piece_of_two_turns(self):
        net = Net(10, NEXTS)
        one, seven, eight, four = (1, 14), (7, 20), (8, 1), (4, 7)
        self.check_all_keys(told_answer, net, 7, [four] * 5 + [one] * 3 + [eight, four])
        one, seven, eight, four = (1, 20), (7, 6), (8, 7), (4, 13)
        self.check_all_keys(told_answer, net, 1, [four] * 2 + [seven] * 6 + [eight, four])
        one, seven, eight, four = (1, 7), (7, 13), (8, 14), (4, 20)
        self.check_all_keys(told_answer, net, 4, [one] * 2 + [seven] * 3 + [one] * 5)

    def test_house_off_the_ring(self):
        one, four = (1, 13), (4, 6)
        self.check_all_keys(told_answer, Net(10, NEXTS), 8, [four] * 5 + [one] * 4 + [four])

    def test_key_that_is_the_house_itself(self):
        for house, result in [(1, (4, 13)), (4, (7, 13)), (7, (1, 14)), (8, (1, 13))]:
            self.check_tells(told_answer, Net(10, NEXTS), house, house, result=result)
        for house in (1, 4, 7):
            net = Net(10, {1: 1, 4: 1, 7: 4})
            self.check_tells(told_answer, net, house, house, result=(house, 10))

    def test_house_alone(self):
        self.check_all_keys(told_answer, Net(10, {3: 3, 5: 5}), 3, [(3, 10)] * 10)
        self.check_all_keys(told_answer, Net(1, {0: 0}), 0, [(0, 1)])

    def test_piece_that_is_clear_only(self):
        net = Net(10, {1: 1, 4: 1, 7: 4, 2: 2}, befores={7: 1})
        self.assertFalse(piece_is_true(net, 1))
        one, four, seven = (1, 10), (4, 3), (7, 6)
        self.check_all_keys(told_answer, net, 1, [one] * 2 + [four] * 3 + [seven] * 3 + [one] * 2)
        one, four, seven = (1, 4), (4, 7), (7, 10)
        self.check_all_keys(told_answer, net, 7, [one] * 2 + [four] * 3 + [seven] * 3 + [one] * 2)
        self.check_tells(told_answer, net, 2, 1, result=(2, 10))

    def test_many_turns(self):
        net = Net(GREAT, ring_nexts(list(range(40, 0, -1))))
        self.check_tells(told_answer, net, 40, 40, result=(38, 2 * GREAT - 2))
        self.check_tells(told_answer, net, 1, 2, result=(40, 39))
        self.check_tells(told_answer, net, 1, 41, result=(39, GREAT + 38))

    def test_untold(self):
        nexts = {**ring_nexts([1, 7, 4]), 8: 4, 3: 3, 0: 0}
        net = Net(10, nexts, befores={7: 4})
        for house in (1, 4, 7, 8):
            for key in (0, 5, house):
                self.check_fails(told_answer, net, house, key, error=Untold(1))
        # Other pieces are told, whatever comes of this one.
        self.check_tells(told_answer, net, 3, 5, result=(3, 10))
        net = Net(10, nexts, letters=[("tell", 3, 8)])
        for house, least in [(7, 1), (8, 1), (3, 3)]:
            self.check_fails(told_answer, net, house, 6, error=Untold(least))
        self.check_tells(told_answer, net, 0, 5, result=(0, 10))

    def test_places_without_a_house_and_keys_off_the_circle(self):
        self.check_wrong_arguments(told_answer)

    def test_untold_comes_last(self):
        net = Net(10, ring_nexts([1, 7, 4]), befores={7: 4})
        self.check_fails(told_answer, net, 2, 10, error=NoHouse(2))
        self.check_fails(told_answer, net, 2, 5, error=NoHouse(2))
        self.check_fails(told_answer, net, 4, 10, error=OffCircle(10))
        self.check_fails(told_answer, net, 4, -1, error=OffCircle(-1))
        self.check_fails(told_answer, net, 4, 5, error=Untold(1))

    def check_told(self, net):
        """Check that a settled copy of the net answers what is told, house by house."""
        settled = net.clone()
        settle(settled)
        for house in net.houses():
            for key in range(net.size):
                result = answer(settled, house, key)
                self.check_tells(told_answer, net, house, key, result=result)
                self.check_tells(told_answer, settled, house, key, result=result)

    def test_answer_in_the_end(self):
        chance = random.Random(79)
        lapped = 0
        for _ in range(60):
            net = true_net(chance, chance.choice([1, 3, 5, 8, 11]))
            lapped += any(turns_of(net, house) > 1 for house in net.houses())
            self.check_told(net)
        self.assertGreater(lapped, 8)

    def test_answer_in_the_end_of_clear_pieces(self):
        chance = random.Random(80)
        for _ in range(40):
            net = true_net(chance, chance.choice([5, 8, 11]))
            let_go(net, chance.choice([h for h in net.houses() if on_ring(net, h)]))
            for _ in range(chance.randrange(12)):
                random_call(chance, net, CALLS_WITH_ADMIT)
            self.check_told(net)

    def test_nets_of_which_nothing_may_be_told(self):
        chance = random.Random(81)
        untold = clear = 0
        for net in mixed_nets(chance, 200):
            for house in net.houses():
                key = chance.randrange(net.size)
                if piece_is_true(net, house) or clear_towards(net, house):
                    settled = net.clone()
                    settle(settled)
                    result = answer(settled, house, key)
                    self.check_tells(told_answer, net, house, key, result=result)
                    clear += not piece_is_true(net, house)
                else:
                    error = Untold(least_of(net, house))
                    self.check_fails(told_answer, net, house, key, error=error)
                    untold += 1
        self.assertGreater(min(untold, clear), 30)
