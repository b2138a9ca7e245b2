"""Points 85 to 87: falls of several houses, gaps, and what a store still finds."""

import itertools
import random

from net_case import NetCase, all_nexts, ring_nexts
from piece_model import Model
from ringlaps.calm import settle
from ringlaps.ends import is_plain
from ringlaps.errors import NoHouse, NotAtRest
from ringlaps.falls import fall, gaps
from ringlaps.net import Net
from ringlaps.store import Store

GREAT = 1000000000
PLACES = [1, 4, 9, 12, 15]


def plain_net(size, places, **more):
    return Net(size, ring_nexts(sorted(places)), **more)


def known_ahead(model, house, ahead):
    """Return the houses that a house knew: so many that follow it, or all others of its ring."""
    others = [house]
    while model.nexts[others[-1]] != house and len(others) <= ahead:
        others.append(model.nexts[others[-1]])
    return others[1:]


def nexts_after(net, fallen, ahead):
    model = Model(net)
    nexts = {}
    for house in net.houses():
        if house not in fallen:
            left = [other for other in known_ahead(model, house, ahead) if other not in fallen]
            nexts[house] = [*left, house][0]
    return nexts


def gap_lengths(net, fallen):
    """Return the lengths of all gaps, ring by ring, each ring begun at a house that remains."""
    lengths = []
    model = Model(net)
    for piece in model.pieces():
        ring = model.ring(piece[0])
        left = [at for at, house in enumerate(ring) if house not in fallen]
        if left:
            row = "".join("x" if house in fallen else " " for house in ring[left[0] :] + ring[: left[0]])
            lengths += [len(part) for part in row.split()]
    return lengths


class FallCase(NetCase):
    def check_fall(self, net, fallen, ahead, nexts, number):
        """Check both functions with all ways to pass these arguments."""
        earlier, passed = net.snapshot(), list(fallen)
        ways = [{"ahead": ahead}] if ahead != 2 else [{"ahead": 2}, {}]
        for more in ways:
            found = fall(net, fallen, **more)
            self.assertIsInstance(found, Net)
            rows = tuple((house, nexts[house], None) for house in sorted(nexts))
            self.assertEqual(found.snapshot(), (net.size, rows, ()))
            self.assertEqual(gaps(net, fallen, **more), number)
            # The new net is independent.
            for house in found.houses():
                found.hold(house, house)
                found.tell(house)
            self.assertEqual((net.snapshot(), fallen), (earlier, passed))

    def check_both_fail(self, net, fallen, error):
        for ahead in (1, 2, 40):
            for function in (fall, gaps):
                earlier, passed = net.snapshot(), list(fallen)
                with self.subTest(function=function.__name__, net=earlier, fallen=fallen):
                    with self.assertRaises(type(error)) as caught:
                        function(net, fallen, ahead=ahead)
                    self.assertEqual(vars(caught.exception), vars(error))
                    self.assertEqual((net.snapshot(), fallen), (earlier, passed))


class FallTest(FallCase):
    def test_example(self):
        net = Net(20, {1: 4, 4: 9, 9: 12, 12: 15, 15: 1})
        self.check_fall(net, [4], 2, {1: 9, 9: 12, 12: 15, 15: 1}, 0)
        self.check_fall(net, [4, 9], 2, {1: 1, 12: 15, 15: 1}, 1)

    def test_no_fallen_house(self):
        net = plain_net(20, PLACES)
        for ahead in (1, 2, 4, 5, 40):
            self.check_fall(net, [], ahead, net.nexts(), 0)
        self.check_fall(Net(20, {}), [], 2, {}, 0)
        self.check_fall(Net(20, {3: 3}), [], 1, {3: 3}, 0)

    def test_one_fallen_house(self):
        net = plain_net(20, PLACES)
        for ahead in (2, 3, 40):
            self.check_fall(net, [12], ahead, {1: 4, 4: 9, 9: 15, 15: 1}, 0)
        self.check_fall(net, [12], 1, {1: 4, 4: 9, 9: 9, 15: 1}, 1)

    def test_gaps_shorter_than_as_long_as_and_longer_than_ahead(self):
        net = plain_net(20, PLACES)
        self.check_fall(net, [4, 9, 12], 1, {1: 1, 15: 1}, 1)
        self.check_fall(net, [4, 9, 12], 2, {1: 1, 15: 1}, 1)
        self.check_fall(net, [4, 9, 12], 3, {1: 1, 15: 1}, 1)
        self.check_fall(net, [4, 9, 12], 4, {1: 15, 15: 1}, 0)
        self.check_fall(net, [4, 9, 12], 5, {1: 15, 15: 1}, 0)

    def test_gap_over_the_place_zero(self):
        net = plain_net(20, PLACES)
        self.check_fall(net, [15, 1], 2, {4: 9, 9: 12, 12: 12}, 1)
        self.check_fall(net, [1, 15], 3, {4: 9, 9: 12, 12: 4}, 0)
        net = plain_net(20, [0, 5, 19])
        self.check_fall(net, [0], 1, {5: 19, 19: 19}, 1)
        self.check_fall(net, [0], 2, {5: 19, 19: 5}, 0)

    def test_several_gaps_in_one_ring(self):
        net = plain_net(20, [0, 2, 4, 6, 8, 10, 12])
        fallen = [2, 6, 8]
        self.check_fall(net, fallen, 1, {0: 0, 4: 4, 10: 12, 12: 0}, 2)
        self.check_fall(net, fallen, 2, {0: 4, 4: 4, 10: 12, 12: 0}, 1)
        self.check_fall(net, fallen, 3, {0: 4, 4: 10, 10: 12, 12: 0}, 0)
        fallen = [2, 4, 8, 10, 12]
        self.check_fall(net, fallen, 2, {0: 0, 6: 6}, 2)
        self.check_fall(net, fallen, 3, {0: 6, 6: 6}, 1)
        self.check_fall(net, fallen, 4, {0: 6, 6: 0}, 0)

    def test_gap_with_the_same_house_on_both_sides(self):
        net = plain_net(20, PLACES)
        for ahead, number in [(1, 1), (2, 1), (3, 1), (4, 1), (5, 0), (40, 0)]:
            for house in PLACES:
                fallen = [other for other in PLACES if other != house]
                self.check_fall(net, fallen, ahead, {house: house}, number)
        self.check_fall(plain_net(20, [3, 8]), [3], 1, {8: 8}, 1)
        self.check_fall(plain_net(20, [3, 8]), [3], 2, {8: 8}, 0)

    def test_all_houses_fall(self):
        for ahead in (1, 2, 40):
            self.check_fall(plain_net(20, PLACES), PLACES, ahead, {}, 0)
            self.check_fall(Net(20, {3: 3}), [3], ahead, {}, 0)

    def test_houses_listed_twice_and_in_any_order(self):
        net = plain_net(20, PLACES)
        self.check_fall(net, [4, 4], 2, {1: 9, 9: 12, 12: 15, 15: 1}, 0)
        self.check_fall(net, [9, 4, 9, 4, 4], 2, {1: 1, 12: 15, 15: 1}, 1)
        self.check_fall(net, [12, 4, 9, 4] * 30, 4, {1: 15, 15: 1}, 0)

    def test_rings_of_several_turns(self):
        # Along the nexts, and not on the circle: 7 and 4 are neighbours, 1 and 4 are not.
        net = Net(10, ring_nexts([1, 9, 7, 4]))
        self.check_fall(net, [9, 7], 2, {1: 1, 4: 1}, 1)
        self.check_fall(net, [9, 7], 3, {1: 4, 4: 1}, 0)
        self.check_fall(net, [9, 4], 1, {1: 1, 7: 7}, 2)
        self.check_fall(net, [9, 4], 2, {1: 7, 7: 1}, 0)

    def test_several_rings(self):
        net = Net(20, ring_nexts([1, 15, 9], [2, 4, 6, 8], [3], [5]))
        fallen = [15, 9, 4, 8, 5]
        self.check_fall(net, fallen, 1, {1: 1, 2: 2, 3: 3, 6: 6}, 3)
        self.check_fall(net, fallen, 2, {1: 1, 2: 6, 3: 3, 6: 2}, 1)
        self.check_fall(net, fallen, 3, {1: 1, 2: 6, 3: 3, 6: 2}, 0)

    def test_more_ahead_than_the_ring_has_houses(self):
        net = Net(20, ring_nexts([1, 15, 9], [2, 4, 6, 8]))
        for ahead in (3, 4, 12, 40):
            self.check_fall(net, [15, 9, 4], ahead, {1: 1, 2: 6, 6: 8, 8: 2}, 0)

    def test_befores_and_letters_are_gone(self):
        letters = [("tell", 4, 1), ("answer", 9, 12, 15)]
        net = plain_net(20, PLACES, befores={4: 1, 9: 4, 15: 12}, letters=letters)
        self.check_fall(net, [4], 2, {1: 9, 9: 12, 12: 15, 15: 1}, 0)
        self.check_fall(net, [], 2, net.nexts(), 0)

    def test_great_ring(self):
        places = list(range(0, GREAT, GREAT // 40))
        net = plain_net(GREAT, places)
        self.check_fall(net, places[:39], 39, {places[39]: places[39]}, 1)
        self.check_fall(net, places[:39], 40, {places[39]: places[39]}, 0)
        ends = {places[0]: places[39], places[39]: places[0]}
        self.check_fall(net, places[1:39], 39, ends, 0)
        self.check_fall(net, places[1:39], 38, {**ends, places[0]: places[0]}, 1)

    def test_items_that_are_no_houses(self):
        net = plain_net(20, PLACES)
        for place in (0, 2, 19, 20, -1):
            for fallen in ([place], [4, place], [4, place, 3], [place, 4, place]):
                self.check_both_fail(net, fallen, NoHouse(place))
        self.check_both_fail(Net(20, {}), [0], NoHouse(0))

    def test_nets_that_are_not_at_rest(self):
        for nexts, house in [
            ({1: 4, 4: 1, 7: 4}, 4),
            ({1: 4, 4: 1, 7: 1}, 1),
            ({1: 4, 4: 7, 7: 7}, 1),
            ({3: 3, 8: 3}, 3),
            ({8: 3, 3: 8, 9: 8, 0: 0}, 8),
            ({2: 2, 4: 7, 7: 5, 5: 7}, 4),
        ]:
            for fallen in ([], [house], sorted(nexts)):
                self.check_both_fail(Net(10, nexts), fallen, NotAtRest(house))

    def test_no_house_comes_ahead_of_not_at_rest(self):
        net = Net(10, {1: 4, 4: 1, 7: 4})
        self.check_both_fail(net, [5], NoHouse(5))
        self.check_both_fail(net, [1, 9, 0], NoHouse(9))
        self.check_both_fail(net, [1, 1], NotAtRest(4))

    def check_by_words(self, net, fallen, ahead):
        """Compare with the words of both points, and check to how many pieces each ring comes."""
        nexts = nexts_after(net, fallen, ahead)
        long_gaps = [length for length in gap_lengths(net, fallen) if length >= ahead]
        self.check_fall(net, fallen, ahead, nexts, len(long_gaps))
        after = Model(Net(net.size, nexts))
        model = Model(net)
        for piece in model.pieces():
            found = {tuple(after.ring(house)) for house in piece if house not in fallen}
            others = [house for house in net.houses() if house not in piece]
            number = gaps(net, [*fallen, *others], ahead=ahead)
            if found:
                self.assertEqual(len(found), max(1, number))
        return after

    def test_all_falls_of_small_nets(self):
        for nexts in all_nexts([0, 3, 5, 6]):
            if sorted(nexts.values()) == [0, 3, 5, 6]:
                for count in range(5):
                    for fallen in itertools.combinations([0, 3, 5, 6], count):
                        for ahead in (1, 2, 3, 4):
                            self.check_by_words(Net(7, nexts), list(fallen), ahead)

    def test_random_falls(self):
        chance = random.Random(85)
        for _ in range(200):
            order = chance.sample(range(30), chance.randrange(1, 13))
            at = chance.randrange(len(order))
            net = Net(30, ring_nexts(*[part for part in (order[:at], order[at:]) if part]))
            fallen = chance.sample(order, chance.randrange(len(order) + 1))
            self.check_by_words(net, fallen, chance.choice([1, 1, 2, 2, 3, 4]))

    def test_plain_nets_come_together_with_at_most_one_gap(self):
        chance = random.Random(86)
        together = apart = 0
        for _ in range(200):
            places = chance.sample(range(30), chance.randrange(1, 13))
            net = plain_net(30, places)
            fallen = chance.sample(places, chance.randrange(len(places)))
            ahead = chance.choice([1, 1, 2, 2, 3])
            after = self.check_by_words(net, fallen, ahead)
            self.assertTrue(all(after.turns(house) == 1 for house in after.nexts))
            found = fall(net, fallen, ahead=ahead)
            settle(found)
            at_most_one = gaps(net, fallen, ahead=ahead) <= 1
            self.check_tells(is_plain, found, result=at_most_one)
            together += at_most_one
            apart += not at_most_one
        self.assertGreater(min(together, apart), 25)


class StoreAfterFallTest(FallCase):
    """Point 87."""

    def moved(self, store, fallen):
        """Move the store to the net that is left after a fall, and settle this net."""
        net = fall(store.net, fallen, ahead=store.copies)
        self.assertLessEqual(gaps(store.net, fallen, ahead=store.copies), 1)
        store.move(net)
        settle(net)
        self.assertTrue(is_plain(net))

    def test_found_and_not_found(self):
        for fallen, found in [([9], True), ([9, 12], False), ([12, 15], True), ([4, 9], True), ([1, 4, 15], True)]:
            store = Store(plain_net(20, PLACES), 2)
            self.assertEqual(store.put(1, 7, "worth"), [9, 12])
            self.moved(store, fallen)
            for house in store.net.houses():
                self.assertEqual(store.find_worth(house, 7), "worth" if found else None)

    def test_one_copy(self):
        store = Store(plain_net(20, PLACES))
        store.put(1, 7, 7)
        store.put(1, 10, 10)
        self.moved(store, [9])
        self.assertEqual([store.find_worth(15, key) for key in (7, 10)], [None, 10])

    def test_random_falls(self):
        chance = random.Random(87)
        kept = gone = 0
        for _ in range(150):
            places = chance.sample(range(30), chance.randrange(1, 11))
            store = Store(plain_net(30, places), chance.choice([1, 2, 2, 3]))
            holders = {}
            for key in chance.sample(range(30), 8):
                holders[key] = store.put(chance.choice(places), key, key)
            fallen = chance.sample(places, chance.randrange(len(places)))
            if gaps(store.net, fallen, ahead=store.copies) > 1:
                continue
            self.moved(store, fallen)
            for key, row in holders.items():
                lost = set(row) <= set(fallen)
                for house in store.net.houses():
                    self.assertEqual(store.find_worth(house, key), None if lost else key)
                kept += not lost
                gone += lost
        self.assertGreater(min(kept, gone), 30)
