"""Points 80 to 84: stores."""

import copy
import random

from net_case import CALLS_WITH_ADMIT, NetCase, random_call, ring_nexts, true_net, wild_net
from piece_model import Model
from ringlaps.calm import calm_round, settle
from ringlaps.errors import NoHouse, OffCircle
from ringlaps.net import Net
from ringlaps.pieces import turns_of
from ringlaps.store import Store

GREAT = 1000000000

# A ring of one turn with two tails, and a house alone.
NEXTS = {**ring_nexts([2, 5, 9]), 7: 9, 4: 7, 0: 0}

# A ring of two turns with a tail.
LAPPED = {1: 7, 4: 1, 7: 4, 8: 4}


def all_kept(store):
    return {house: store.kept(house) for house in store.net.houses()}


def holders_of(model, copies, house, key):
    """Return the holders: what the gate answers, and the houses behind it."""
    ring = model.ring(house)
    while house not in ring:
        house = model.nexts[house]
    found, length = model.nexts[house], model.reach(house)
    while length < model.far(house, key):
        found, length = model.nexts[found], length + model.reach(found)
    row = [found]
    while len(row) < min(copies, len(ring)):
        row.append(model.nexts[row[-1]])
    return row


class StoreCase(NetCase):
    def check_call(self, store, name, *args, result):
        """Check what a call that only tells returns, that it is new, and that nothing changes."""
        earlier = (store.net.snapshot(), all_kept(store), store.copies)
        for _ in range(2):
            found = getattr(store, name)(*args)
            self.check_same(found, result)
            if isinstance(found, (list, dict)):
                found.clear()
        self.assertEqual((store.net.snapshot(), all_kept(store), store.copies), earlier)

    def check_put(self, store, house, key, worth, holders):
        """Check which houses keep a value after it was put, and that the others keep theirs."""
        earlier = (store.net, store.net.snapshot())
        expected = all_kept(store)
        for holder in holders:
            expected[holder] = {**expected[holder], key: worth}
        found = store.put(house, key, worth)
        self.check_same(found, holders)
        found.clear()
        self.assertIs(store.net, earlier[0])
        self.assertEqual(store.net.snapshot(), earlier[1])
        for place, table in expected.items():
            self.check_call(store, "kept", place, result={k: table[k] for k in sorted(table)})
        self.check_call(store, "find_worth", house, key, result=worth)

    def check_refused(self, store, name, *args, error):
        earlier = (store.net.snapshot(), all_kept(store))
        with self.subTest(name=name, args=args):
            with self.assertRaises(type(error)) as caught:
                getattr(store, name)(*args)
            self.assertEqual(vars(caught.exception), vars(error))
            self.assertEqual((store.net.snapshot(), all_kept(store)), earlier)


class HoldersTest(StoreCase):
    """Points 80 and 81."""

    def test_attributes(self):
        net = Net(10, NEXTS)
        store = Store(net)
        self.assertIs(store.net, net)
        self.assertEqual(store.copies, 1)
        self.assertEqual(Store(net, 3).copies, 3)
        self.assertEqual(Store(net, copies=40).copies, 40)
        for house in net.houses():
            self.check_call(store, "kept", house, result={})
            self.check_call(store, "find_worth", house, 3, result=None)
        self.assertEqual(Store(Net(1, {})).net.houses(), [])

    def test_keys_at_houses_and_between_them(self):
        store = Store(Net(10, NEXTS))
        for key, holder in enumerate([2, 2, 2, 5, 5, 5, 9, 9, 9, 9]):
            for house in (2, 5, 9):
                self.check_call(store, "holders", house, key, result=[holder])
            self.check_call(store, "holders", 0, key, result=[0])

    def test_copies(self):
        # As many as the ring has houses, however many more there should be, with none listed twice.
        net = Net(10, NEXTS)
        rows = {1: [9], 2: [9, 2], 3: [9, 2, 5], 4: [9, 2, 5], 5: [9, 2, 5], 40: [9, 2, 5]}
        for copies, row in rows.items():
            store = Store(net, copies)
            for key in (6, 8, 9):
                self.check_call(store, "holders", 5, key, result=row)
            self.check_call(store, "holders", 0, 6, result=[0])
            self.check_call(store, "holders", 5, 3, result=[5, 9, 2][:copies])
            self.check_call(store, "holders", 5, 0, result=[2, 5, 9][:copies])

    def test_houses_off_the_ring_ask_their_gate(self):
        # By its own way, 4 would answer 7 for the keys 5 to 7, and 7 would answer 9 for 8 and 9.
        for house in (4, 7):
            store = Store(Net(10, NEXTS), 2)
            for key, row in [(5, [5, 9]), (6, [9, 2]), (7, [9, 2]), (8, [9, 2]), (9, [9, 2]), (4, [5, 9]), (0, [2, 5])]:
                self.check_call(store, "holders", house, key, result=row)

    def test_ring_of_two_turns(self):
        # Which of the two answers is the first holder depends on the house, or on its gate.
        store = Store(Net(10, LAPPED), 2)
        for key, rows in [
            (2, {1: [7, 4], 4: [7, 4], 7: [4, 1], 8: [7, 4]}),
            (6, {1: [7, 4], 4: [1, 7], 7: [1, 7], 8: [1, 7]}),
            (9, {1: [4, 1], 4: [1, 7], 7: [4, 1], 8: [1, 7]}),
            (4, {1: [7, 4], 4: [7, 4], 7: [4, 1], 8: [7, 4]}),
        ]:
            for house, row in rows.items():
                self.check_call(store, "holders", house, key, result=row)

    def test_house_alone(self):
        self.check_call(Store(Net(1, {0: 0}), 3), "holders", 0, 0, result=[0])
        self.check_call(Store(Net(GREAT, {7: 7}), 40), "holders", 7, GREAT - 1, result=[7])

    def test_net_that_changes(self):
        store = Store(Net(10, NEXTS), 2)
        store.net.admit(8, 9)
        self.check_call(store, "holders", 5, 6, result=[9, 2])
        store.net.hold(5, 8)
        self.check_call(store, "holders", 5, 6, result=[8, 9])
        store.net.hold(9, 9)
        self.check_call(store, "holders", 5, 6, result=[9])

    def test_against_the_model(self):
        chance = random.Random(81)
        for _ in range(120):
            net = wild_net(chance, chance.choice([1, 5, 8, 11]), most=7)
            model = Model(net)
            store = Store(net, chance.choice([1, 1, 2, 3, 40]))
            for house in net.houses():
                for key in range(net.size):
                    result = holders_of(model, store.copies, house, key)
                    self.assertEqual(store.holders(house, key), result)

    def test_checks_in_their_order(self):
        store = Store(Net(10, NEXTS), 2)
        store.put(2, 4, "a")
        for name, more in [("holders", []), ("put", [5]), ("find_worth", [])]:
            for house in (1, 3, 8, 10, -1):
                for key in (0, 4, house, -1, 10):
                    self.check_refused(store, name, house, key, *more, error=NoHouse(house))
            for key in (-1, 10, 12, -6, GREAT):
                for house in (2, 4, 0):
                    self.check_refused(store, name, house, key, *more, error=OffCircle(key))
        for house in (1, 3, 8, 10, -1):
            self.check_refused(store, "kept", house, error=NoHouse(house))
        self.check_refused(Store(Net(10, {})), "kept", 0, error=NoHouse(0))


class PutTest(StoreCase):
    """Point 82."""

    def test_put_and_find(self):
        store = Store(Net(10, NEXTS), 2)
        self.check_put(store, 5, 6, "six", [9, 2])
        self.check_put(store, 4, 2, 22, [2, 5])
        self.check_put(store, 2, 6, "again", [9, 2])
        self.assertEqual(all_kept(store), {0: {}, 2: {2: 22, 6: "again"}, 4: {}, 5: {2: 22}, 7: {}, 9: {6: "again"}})
        for house in (2, 4, 5, 7, 9):
            self.check_call(store, "find_worth", house, 6, result="again")
            self.check_call(store, "find_worth", house, 2, result=22)
            self.check_call(store, "find_worth", house, 7, result=None)
        self.check_call(store, "find_worth", 0, 6, result=None)
        self.check_put(store, 0, 6, "alone", [0])
        self.check_call(store, "find_worth", 9, 6, result="again")

    def test_values(self):
        for worth in (0, "", 1, -1, 10**40 - 1, -(10**40) + 1, "a", " ", "x" * 200, "two\nlines", "0"):
            store = Store(Net(10, NEXTS), 1)
            self.check_put(store, 5, 6, worth, [9])
            self.assertIs(type(store.find_worth(2, 6)), type(worth))
            self.check_put(store, 5, 6, "later", [9])

    def test_value_that_counts_as_nothing_is_met_first(self):
        for worth in (0, ""):
            store = Store(Net(10, NEXTS), 2)
            store.put(2, 6, "old")
            store.copies = 1
            self.check_put(store, 2, 6, worth, [9])
            self.check_call(store, "find_worth", 4, 6, result=worth)

    def test_kept_in_ascending_order_of_the_keys(self):
        store = Store(Net(10, {3: 3}))
        for key in (7, 3, 9, 0, 5):
            store.put(3, key, key)
        self.check_call(store, "kept", 3, result={0: 0, 3: 3, 5: 5, 7: 7, 9: 9})
        store.kept(3)[4] = 4
        self.check_call(store, "find_worth", 3, 4, result=None)

    def test_older_values_at_other_houses(self):
        store = Store(Net(10, LAPPED))
        self.check_put(store, 1, 2, "from 1", [7])
        self.check_put(store, 7, 2, "from 7", [4])
        self.assertEqual(all_kept(store), {1: {}, 4: {2: "from 7"}, 7: {2: "from 1"}, 8: {}})
        for house, worth in [(1, "from 1"), (4, "from 1"), (7, "from 7"), (8, "from 1")]:
            self.check_call(store, "find_worth", house, 2, result=worth)
        self.check_put(store, 4, 2, "later", [7])
        self.check_call(store, "find_worth", 7, 2, result="from 7")

    def test_found_farther_on(self):
        store = Store(Net(10, NEXTS))
        store.put(5, 6, "six")
        # 8 comes between the key and its holder, then 6; each of them keeps nothing itself.
        for place, follower in [(8, 9), (6, 8)]:
            store.net.admit(place, follower)
            store.net.hold(5, place)
            self.check_call(store, "holders", 2, 6, result=[place])
            for house in (2, 4, 5, 6, 9):
                if house in store.net.houses():
                    self.check_call(store, "find_worth", house, 6, result="six")
        self.check_put(store, 2, 6, "new", [6])
        self.assertEqual(store.kept(9), {6: "six"})

    def test_found_at_the_last_house_of_the_ring_and_nowhere(self):
        # While 4 is a ring by itself, it keeps everything; later the ring goes from 6 round to 4.
        store = Store(Net(10, {0: 2, 2: 4, 4: 4, 6: 8, 8: 0}))
        self.check_put(store, 0, 5, "worth", [4])
        store.net.hold(4, 6)
        self.check_call(store, "holders", 0, 5, result=[6])
        for house in (0, 2, 4, 6, 8):
            self.check_call(store, "find_worth", house, 5, result="worth")
            self.check_call(store, "find_worth", house, 4, result=None)
        # Now 4 is a house off the ring, which nobody comes to any more.
        store.net.hold(2, 6)
        for house in (0, 2, 4, 6, 8):
            self.check_call(store, "find_worth", house, 5, result=None)
        # On a ring of its own again, it finds what it keeps; the others do not.
        store.net.hold(4, 4)
        for house, worth in [(0, None), (2, None), (4, "worth"), (6, None), (8, None)]:
            self.check_call(store, "find_worth", house, 5, result=worth)

    def test_house_that_is_taken_out_and_admitted_again(self):
        store = Store(Net(10, NEXTS), 2)
        store.put(5, 6, "six")
        store.put(5, 3, "three")
        store.net.hold(5, 2)
        store.net.hold(7, 2)
        store.net.take_out(9)
        self.check_refused(store, "kept", 9, error=NoHouse(9))
        self.check_call(store, "find_worth", 5, 3, result="three")
        store.net.admit(9, 9)
        self.check_call(store, "kept", 9, result={3: "three", 6: "six"})
        self.check_call(store, "find_worth", 9, 6, result="six")
        store.net.admit(8, 8)
        self.check_call(store, "kept", 8, result={})

    def test_two_stores_of_one_net(self):
        net = Net(10, NEXTS)
        first, second = Store(net), Store(net, 3)
        first.put(5, 6, "six")
        self.check_call(second, "find_worth", 5, 6, result=None)
        second.put(5, 6, "other")
        self.check_call(first, "find_worth", 5, 6, result="six")

    def test_random_calls_against_a_plain_table(self):
        chance = random.Random(82)
        older = 0
        for _ in range(60):
            net = wild_net(chance, 8, most=5)
            store = Store(net, chance.choice([1, 2, 3]))
            table = {}
            for worth in range(25):
                house, key = chance.choice(net.houses()), chance.randrange(8)
                model = Model(net)
                if chance.random() < 0.4:
                    holders = holders_of(model, store.copies, house, key)
                    self.check_put(store, house, key, worth, holders)
                    table.update({(holder, key): worth for holder in holders})
                row = holders_of(model, 40, house, key)
                found = [table[u, key] for u in row if (u, key) in table]
                older += len(set(found)) > 1
                self.check_call(store, "find_worth", house, key, result=found[0] if found else None)
                net.hold(chance.choice(net.houses()), chance.choice(net.houses()))
                random_call(chance, net, CALLS_WITH_ADMIT)
            for house in net.houses():
                kept = {k: table[u, k] for u, k in sorted(table) if u == house}
                self.check_call(store, "kept", house, result=kept)
        self.assertGreater(older, 20)


class LastPutTest(StoreCase):
    """Point 83."""

    def test_last_put_is_found_from_each_house(self):
        chance = random.Random(83)
        farther = 0
        for _ in range(60):
            net = true_net(chance, chance.choice([1, 5, 8, 11]))
            store = Store(net, chance.choice([1, 1, 2, 3, 40]))
            names, last = {}, {}
            for worth in range(30):
                random_call(chance, net, CALLS_WITH_ADMIT, 9)
                if chance.random() < 0.1:
                    chance.choice([calm_round, settle])(net)
                self.name_pieces(net, names)
                house, key = chance.choice(net.houses()), chance.randrange(net.size)
                if chance.random() < 0.4:
                    store.put(house, key, worth)
                    last[names[house], key] = worth
                for other in [u for u in net.houses() if turns_of(net, u) == 1]:
                    found = store.find_worth(other, key)
                    self.assertEqual(found, last.get((names[other], key)))
                    first = store.holders(other, key)[0]
                    farther += found is not None and key not in store.kept(first)
        self.assertGreater(farther, 20)

    def name_pieces(self, net, names):
        """Name each new house as the other houses of its piece, or as the first of a new one."""
        for piece in Model(net).pieces():
            known = [names[house] for house in piece if house in names]
            names.update({house: [*known, piece][0] for house in piece})


class MoveTest(StoreCase):
    """Point 84."""

    def test_what_stays_and_what_is_gone(self):
        old = Net(10, ring_nexts([0, 2, 4, 6, 8]))
        store = Store(old, 2)
        for key in range(0, 10, 2):
            store.put(0, key, key)
        other = Net(10, ring_nexts([2, 3, 6, 7, 8]))
        earlier = (old.snapshot(), other.snapshot())
        self.assertIsNone(store.move(other))
        self.assertIs(store.net, other)
        self.assertEqual((old.snapshot(), other.snapshot()), earlier)
        self.assertEqual(store.copies, 2)
        kept = {2: {0: 0, 2: 2}, 3: {}, 6: {4: 4, 6: 6}, 7: {}, 8: {6: 6, 8: 8}}
        self.assertEqual(all_kept(store), kept)
        # 0 and 4 are gone for good, also after houses have been admitted there.
        for place in (0, 4):
            self.check_refused(store, "kept", place, error=NoHouse(place))
            other.admit(place, place)
            self.check_call(store, "kept", place, result={})
        store.move(old)
        self.assertIs(store.net, old)
        self.assertEqual(all_kept(store), {0: {}, 2: {0: 0, 2: 2}, 4: {}, 6: {4: 4, 6: 6}, 8: {6: 6, 8: 8}})

    def test_houses_at_the_time_of_the_call(self):
        old = Net(10, {2: 2, 5: 5, 7: 7})
        store = Store(old)
        for house in (2, 5, 7):
            store.put(house, 1, house)
        other = Net(10, {2: 2, 5: 5, 7: 7})
        old.take_out(5)
        other.take_out(7)
        store.move(other)
        self.assertEqual(all_kept(store), {2: {1: 2}, 5: {}})
        old.admit(5, 5)
        other.admit(7, 7)
        self.assertEqual(all_kept(store), {2: {1: 2}, 5: {}, 7: {}})

    def test_place_without_a_house_in_the_same_net(self):
        net = Net(10, {2: 2, 5: 5})
        store = Store(net)
        for house in (2, 5):
            store.put(house, 1, house)
        net.take_out(5)
        store.move(net)
        self.assertIs(store.net, net)
        net.admit(5, 5)
        self.assertEqual(all_kept(store), {2: {1: 2}, 5: {}})

    def test_calls_after_the_move_go_to_the_other_net(self):
        old = Net(10, {2: 2, 5: 5})
        store = Store(old)
        store.put(2, 1, "a")
        other = old.clone()
        store.move(other)
        other.hold(5, 2)
        old.hold(2, 5)
        self.check_put(store, 5, 3, "b", [2])
        self.check_call(store, "kept", 2, result={1: "a", 3: "b"})
        empty = Net(10, {})
        store.move(empty)
        self.check_refused(store, "kept", 2, error=NoHouse(2))
        store.move(other)
        self.check_call(store, "kept", 2, result={})

    def test_random_moves(self):
        chance = random.Random(84)
        for _ in range(60):
            nets = [wild_net(chance, 8) for _ in range(3)]
            store = Store(nets[0], 2)
            expected = {}
            for worth in range(12):
                house, key = chance.choice(store.net.houses()), chance.randrange(8)
                for holder in store.put(house, key, worth):
                    expected.setdefault(holder, {})[key] = worth
                if worth % 4 == 3:
                    other = chance.choice(nets)
                    both = set(other.houses()) & set(store.net.houses())
                    expected = {u: copy.copy(expected[u]) for u in expected if u in both}
                    store.move(other)
                for place in store.net.houses():
                    table = expected.get(place, {})
                    self.check_call(store, "kept", place, result={k: table[k] for k in sorted(table)})
