"""Points 15 to 22: nets and their letters."""

import random
import unittest

from ring_model import ModelNet, random_deed, random_nexts
from ringlaps.errors import NoHouse, NoLetter, OffCircle, StillNamed, TakenPlace
from ringlaps.net import Net

GREAT = 1000000000


class NetCase(unittest.TestCase):
    def check_fails(self, net, kind, value, method, *args):
        """Check that the call raises this error with this value and changes nothing."""
        earlier = net.snapshot()
        with self.subTest(method=method, args=args), self.assertRaises(kind) as caught:
            getattr(net, method)(*args)
        self.assertEqual(list(vars(caught.exception).values()), [value])
        self.assertEqual(net.snapshot(), earlier)

    def check_read(self, net, at, result, *, letters, nexts=None, befores=None):
        """Check what a read returns, and that it changes what is given and nothing else."""
        houses = net.houses()
        expected_nexts = {**net.nexts(), **(nexts or {})}
        expected_befores = {**net.befores(), **(befores or {})}
        self.assertEqual(net.read(at), result)
        self.assertEqual(net.houses(), houses)
        self.assertEqual(net.nexts(), expected_nexts)
        self.assertEqual(net.befores(), expected_befores)
        self.assertEqual(net.letters(), letters)


class WriteTest(NetCase):
    def test_example(self):
        net = Net(10, {1: 7, 7: 1})
        self.assertEqual(net.tell(7), ("tell", 1, 7))
        self.assertEqual(net.read(0), ("before", 1, 7))

    def test_tell_and_ask(self):
        net = Net(10, {1: 7, 4: 1, 7: 4})
        self.assertEqual(net.tell(4), ("tell", 1, 4))
        self.assertEqual(net.ask(7), ("ask", 4, 7))
        self.assertEqual(net.tell(4), ("tell", 1, 4))
        self.assertEqual(net.letters(), [("tell", 1, 4), ("ask", 4, 7), ("tell", 1, 4)])
        self.assertEqual(net.nexts(), {1: 7, 4: 1, 7: 4})
        self.assertEqual(net.befores(), {})

    def test_house_that_is_its_own_next(self):
        net = Net(10, {4: 4})
        self.assertEqual(net.tell(4), ("tell", 4, 4))
        self.assertEqual(net.ask(4), ("ask", 4, 4))

    def test_places_without_a_house(self):
        net = Net(10, {1: 7, 7: 1}, letters=[("tell", 7, 1)])
        for place in (4, 0, 9, 10, -1, 11):
            self.check_fails(net, NoHouse, place, "tell", place)
            self.check_fails(net, NoHouse, place, "ask", place)
        self.check_fails(Net(10, {}), NoHouse, 0, "tell", 0)
        self.check_fails(Net(10, {}), NoHouse, 0, "ask", 0)


class ReadTellTest(NetCase):
    def test_before_is_none(self):
        net = Net(10, {1: 7, 7: 1}, letters=[("ask", 7, 1), ("tell", 1, 7)])
        self.check_read(net, 1, ("before", 1, 7), letters=[("ask", 7, 1)], befores={1: 7})

    def test_sender_lies_between_before_and_reader(self):
        net = Net(10, {1: 7, 4: 7, 7: 1}, befores={7: 1}, letters=[("tell", 7, 4)])
        self.check_read(net, 0, ("before", 7, 4), letters=[], befores={7: 4})

    def test_sender_does_not_lie_between(self):
        net = Net(10, {1: 7, 4: 7, 7: 1}, befores={7: 4}, letters=[("tell", 7, 1)])
        self.check_read(net, 0, ("kept", 7, None), letters=[])

    def test_sender_is_the_before(self):
        net = Net(10, {1: 7, 7: 1}, befores={7: 1}, letters=[("tell", 7, 1)])
        self.check_read(net, 0, ("kept", 7, None), letters=[])

    def test_reader_is_the_sender(self):
        net = Net(10, {1: 4, 4: 4}, letters=[("tell", 4, 4), ("tell", 4, 4), ("tell", 4, 1)])
        self.check_read(net, 0, ("before", 4, 4), letters=[("tell", 4, 4), ("tell", 4, 1)], befores={4: 4})
        self.check_read(net, 0, ("kept", 4, None), letters=[("tell", 4, 1)])
        self.check_read(net, 0, ("before", 4, 1), letters=[], befores={4: 1})
        net.tell(4)
        self.check_read(net, 0, ("kept", 4, None), letters=[])

    def test_place_zero_is_a_before_like_others(self):
        net = Net(10, {0: 4, 4: 0, 8: 4}, befores={4: 0}, letters=[("tell", 4, 8), ("tell", 0, 4)])
        self.check_read(net, 0, ("kept", 4, None), letters=[("tell", 0, 4)])
        self.check_read(net, 0, ("before", 0, 4), letters=[], befores={0: 4})


class ReadAskTest(NetCase):
    def test_with_a_before(self):
        letters = [("tell", 1, 4), ("ask", 7, 1), ("tell", 4, 7)]
        net = Net(10, {1: 7, 4: 1, 7: 4}, befores={7: 4}, letters=letters)
        rest = [("tell", 1, 4), ("tell", 4, 7), ("answer", 1, 7, 4)]
        self.check_read(net, 1, ("wrote", 7, 4), letters=rest)

    def test_with_the_before_zero(self):
        net = Net(10, {0: 7, 7: 0}, befores={7: 0}, letters=[("ask", 7, 0)])
        self.check_read(net, 0, ("wrote", 7, 0), letters=[("answer", 0, 7, 0)])

    def test_without_a_before(self):
        net = Net(10, {1: 7, 4: 1, 7: 4}, befores={1: 4}, letters=[("ask", 7, 1), ("tell", 1, 4)])
        self.check_read(net, 0, ("kept", 7, None), letters=[("tell", 1, 4)])

    def test_house_that_asks_itself(self):
        net = Net(10, {4: 4}, befores={4: 4}, letters=[("ask", 4, 4)])
        self.check_read(net, 0, ("wrote", 4, 4), letters=[("answer", 4, 4, 4)])
        self.check_read(net, 0, ("kept", 4, None), letters=[])


class ReadAnswerTest(NetCase):
    def test_taken(self):
        net = Net(10, {1: 7, 4: 1, 7: 4}, letters=[("answer", 1, 7, 4), ("tell", 7, 1)])
        self.check_read(net, 0, ("next", 1, 4), letters=[("tell", 7, 1)], nexts={1: 4})

    def test_sender_is_not_the_next_any_more(self):
        net = Net(10, {1: 4, 4: 1, 7: 4, 3: 7}, letters=[("answer", 1, 7, 3)])
        self.check_read(net, 0, ("kept", 1, None), letters=[])

    def test_named_house_does_not_lie_between(self):
        net = Net(10, {1: 7, 4: 1, 7: 4, 8: 1}, letters=[("answer", 1, 7, 8)])
        self.check_read(net, 0, ("kept", 1, None), letters=[])

    def test_named_house_is_the_reader_or_the_sender(self):
        letters = [("answer", 1, 7, 1), ("answer", 1, 7, 7)]
        net = Net(10, {1: 7, 7: 1}, letters=letters)
        self.check_read(net, 0, ("kept", 1, None), letters=[("answer", 1, 7, 7)])
        self.check_read(net, 0, ("kept", 1, None), letters=[])

    def test_house_that_is_its_own_next(self):
        net = Net(10, {1: 1, 7: 1}, letters=[("answer", 1, 1, 7)])
        self.check_read(net, 0, ("next", 1, 7), letters=[], nexts={1: 7})

    def test_second_copy_is_late(self):
        net = Net(10, {1: 7, 4: 1, 7: 4}, letters=[("answer", 1, 7, 4)] * 2)
        self.check_read(net, 1, ("next", 1, 4), letters=[("answer", 1, 7, 4)], nexts={1: 4})
        self.check_read(net, 0, ("kept", 1, None), letters=[])


class LoseAndRepeatTest(NetCase):
    LETTERS = [("tell", 7, 1), ("ask", 1, 7), ("answer", 1, 7, 7), ("tell", 1, 7)]

    def test_lose(self):
        net = Net(10, {1: 7, 7: 1}, letters=self.LETTERS)
        self.assertEqual(net.lose(2), ("answer", 1, 7, 7))
        self.assertEqual(net.lose(0), ("tell", 7, 1))
        self.assertEqual(net.letters(), [("ask", 1, 7), ("tell", 1, 7)])
        self.assertEqual((net.nexts(), net.befores()), ({1: 7, 7: 1}, {}))

    def test_repeat(self):
        for at, letter in enumerate(self.LETTERS):
            net = Net(10, {1: 7, 7: 1}, letters=self.LETTERS)
            self.assertEqual(net.repeat(at), letter)
            self.assertEqual(net.letters(), [*self.LETTERS, letter])
            self.assertEqual((net.nexts(), net.befores()), ({1: 7, 7: 1}, {}))

    def test_indexes_without_a_letter(self):
        net = Net(10, {1: 7, 7: 1}, letters=self.LETTERS)
        empty = Net(10, {1: 7, 7: 1})
        for method in ("read", "lose", "repeat"):
            for at in (-1, -4, 4, 5, 1000):
                self.check_fails(net, NoLetter, at, method, at)
            for at in (-1, 0, 1):
                self.check_fails(empty, NoLetter, at, method, at)
                self.check_fails(Net(10, {}), NoLetter, at, method, at)

    def test_last_index(self):
        net = Net(10, {1: 7, 7: 1}, letters=self.LETTERS)
        self.assertEqual(net.repeat(3), ("tell", 1, 7))
        self.assertEqual(net.lose(4), ("tell", 1, 7))
        self.assertEqual(net.read(3), ("before", 1, 7))


class AdmitTest(NetCase):
    def test_host_is_a_house(self):
        net = Net(10, {1: 7, 7: 1}, befores={1: 7}, letters=[("tell", 7, 1)])
        self.assertIsNone(net.admit(4, 7))
        rows = ((1, 7, 7), (4, 7, None), (7, 1, None))
        self.assertEqual(net.snapshot(), (10, rows, (("tell", 7, 1),)))

    def test_host_is_the_place_itself(self):
        net = Net(10, {1: 1})
        self.assertIsNone(net.admit(0, 0))
        self.assertIsNone(net.admit(9, 9))
        self.assertEqual(net.nexts(), {0: 0, 1: 1, 9: 9})
        self.assertEqual(net.befores(), {})

    def test_first_house(self):
        net = Net(1, {})
        net.admit(0, 0)
        self.assertEqual(net.snapshot(), (1, ((0, 0, None),), ()))

    def test_ends_of_the_circle(self):
        net = Net(GREAT, {5: 5})
        net.admit(GREAT - 1, 5)
        net.admit(0, GREAT - 1)
        self.assertEqual(net.nexts(), {0: GREAT - 1, 5: 5, GREAT - 1: 5})

    def test_off_circle(self):
        net = Net(10, {1: 7, 7: 1})
        for place in (-1, 10, 11, -10):
            self.check_fails(net, OffCircle, place, "admit", place, 1)
            self.check_fails(net, OffCircle, place, "admit", place, place)
            self.check_fails(net, OffCircle, place, "admit", place, 4)

    def test_taken_place(self):
        net = Net(10, {1: 7, 7: 1})
        for host in (1, 7, 4, 10, -1):
            self.check_fails(net, TakenPlace, 7, "admit", 7, host)

    def test_host_that_is_no_house(self):
        net = Net(10, {1: 7, 7: 1})
        for host in (5, 0, 10, -1):
            self.check_fails(net, NoHouse, host, "admit", 4, host)

    def test_place_of_a_house_that_was_taken_out(self):
        net = Net(10, {1: 1, 4: 1}, befores={4: 1})
        net.take_out(4)
        net.admit(4, 4)
        self.assertEqual(net.snapshot(), (10, ((1, 1, None), (4, 4, None)), ()))


class HoldTest(NetCase):
    def test_hold(self):
        net = Net(10, {1: 7, 4: 1, 7: 4}, befores={7: 1}, letters=[("tell", 7, 1)])
        self.assertEqual(net.hold(1, 4), 7)
        self.assertEqual(net.nexts(), {1: 4, 4: 1, 7: 4})
        self.assertEqual(net.hold(4, 4), 1)
        self.assertEqual(net.hold(4, 4), 4)
        self.assertEqual(net.nexts(), {1: 4, 4: 4, 7: 4})
        self.assertEqual(net.befores(), {7: 1})
        self.assertEqual(net.letters(), [("tell", 7, 1)])

    def test_first_argument_that_is_no_house(self):
        net = Net(10, {1: 7, 7: 1}, befores={1: 7})
        for method in ("hold", "set_before"):
            self.check_fails(net, NoHouse, 4, method, 4, 1)
            self.check_fails(net, NoHouse, 5, method, 1, 5)
            self.check_fails(net, NoHouse, 4, method, 4, 5)
            self.check_fails(net, NoHouse, -1, method, -1, 10)
            self.check_fails(net, NoHouse, 10, method, 1, 10)
        self.check_fails(net, NoHouse, 4, "set_before", 4, None)

    def test_set_before(self):
        net = Net(10, {0: 7, 7: 0})
        self.assertIsNone(net.set_before(7, 0))
        self.assertEqual(net.befores(), {7: 0})
        self.assertIsNone(net.set_before(7, 7))
        self.assertEqual(net.befores(), {7: 7})
        self.assertIsNone(net.set_before(0, 7))
        self.assertIsNone(net.set_before(7, None))
        self.assertEqual(net.befores(), {0: 7})
        self.assertIsNone(net.before_of(7))
        self.assertIsNone(net.set_before(7, None))
        self.assertEqual(net.nexts(), {0: 7, 7: 0})


class TakeOutTest(NetCase):
    def test_house_that_nobody_names(self):
        net = Net(10, {1: 1, 4: 1}, befores={4: 1}, letters=[("tell", 1, 1)])
        self.assertIsNone(net.take_out(4))
        self.assertEqual(net.snapshot(), (10, ((1, 1, None),), (("tell", 1, 1),)))
        self.check_fails(net, NoHouse, 4, "take_out", 4)

    def test_house_that_names_only_itself(self):
        net = Net(10, {1: 1, 4: 4}, befores={4: 4})
        net.take_out(4)
        self.assertEqual(net.snapshot(), (10, ((1, 1, None),), ()))
        net.take_out(1)
        self.assertEqual(net.snapshot(), (10, (), ()))

    def test_no_house(self):
        net = Net(10, {1: 1, 4: 1}, letters=[("tell", 1, 4)])
        for place in (0, 5, -1, 10):
            self.check_fails(net, NoHouse, place, "take_out", place)

    def test_still_a_next(self):
        net = Net(10, {1: 4, 4: 4})
        self.check_fails(net, StillNamed, 4, "take_out", 4)

    def test_still_a_before(self):
        net = Net(10, {0: 0, 4: 4}, befores={0: 4, 4: 4})
        self.check_fails(net, StillNamed, 4, "take_out", 4)
        other = Net(10, {0: 0, 4: 4}, befores={4: 0})
        self.check_fails(other, StillNamed, 0, "take_out", 0)

    def test_still_in_a_letter(self):
        letters = [
            ("tell", 4, 1),
            ("tell", 1, 4),
            ("ask", 4, 1),
            ("ask", 1, 4),
            ("answer", 4, 1, 1),
            ("answer", 1, 4, 1),
            ("answer", 1, 1, 4),
            ("tell", 4, 4),
        ]
        for letter in letters:
            for row in ([letter], [("tell", 1, 1), letter], [letter, ("tell", 1, 1)]):
                net = Net(10, {1: 1, 4: 4}, letters=row)
                self.check_fails(net, StillNamed, 4, "take_out", 4)
                net.lose(row.index(letter))
                net.take_out(4)
                self.assertEqual(net.houses(), [1])


class CreateTest(NetCase):
    def check_bad(self, kind, place, nexts, **more):
        with self.subTest(nexts=nexts, **more), self.assertRaises(kind) as caught:
            Net(10, nexts, **more)
        self.assertEqual(caught.exception.place, place)

    def test_empty_net(self):
        for more in ({}, {"befores": None, "letters": None}, {"befores": {}, "letters": []}):
            net = Net(10, {}, **more)
            self.assertEqual(net.snapshot(), (10, (), ()))
            self.assertEqual([net.houses(), net.letters(), net.nexts(), net.befores()], [[], [], {}, {}])
            self.assertEqual(net.clone().snapshot(), (10, (), ()))

    def test_befores_and_letters_left_out(self):
        for more in ({}, {"befores": None}, {"letters": None}, {"befores": {}}, {"letters": []}):
            self.assertEqual(Net(10, {4: 4}, **more).snapshot(), (10, ((4, 4, None),), ()))

    def test_befores_and_letters_by_name_only(self):
        self.assertRaises(TypeError, Net, 10, {4: 4}, {4: 4})

    def test_house_off_the_circle(self):
        self.check_bad(OffCircle, -1, {-1: -1})
        self.check_bad(OffCircle, 10, {10: 1, 1: 1})
        self.check_bad(OffCircle, -2, {12: 4, -1: 4, -2: 4})
        self.check_bad(OffCircle, 10, {1: 5, 10: 5}, befores={2: 3}, letters=[("tell", 2, 2)])

    def test_next_that_is_no_house(self):
        self.check_bad(NoHouse, 4, {1: 4})
        self.check_bad(NoHouse, -1, {1: -1})
        self.check_bad(NoHouse, 5, {7: 6, 1: 5})
        self.check_bad(NoHouse, 5, {1: 1, 7: 5}, befores={0: 3}, letters=[("tell", 2, 2)])

    def test_befores_that_are_no_houses(self):
        self.check_bad(NoHouse, 4, {1: 1}, befores={4: 1})
        self.check_bad(NoHouse, 4, {1: 1}, befores={1: 4})
        self.check_bad(NoHouse, 4, {1: 1}, befores={4: 5})
        self.check_bad(NoHouse, 9, {1: 1}, befores={3: 1, 1: 9})
        self.check_bad(NoHouse, 0, {1: 1}, befores={8: 7, 0: 1})
        self.check_bad(NoHouse, 6, {1: 1, 2: 2}, befores={1: 2, 2: 6}, letters=[("tell", 3, 3)])

    def test_letters_that_name_no_houses(self):
        self.check_bad(NoHouse, 4, {1: 1}, letters=[("tell", 4, 5)])
        self.check_bad(NoHouse, 5, {1: 1}, letters=[("ask", 1, 5)])
        self.check_bad(NoHouse, 4, {1: 1}, letters=[("answer", 4, 5, 6)])
        self.check_bad(NoHouse, 5, {1: 1}, letters=[("answer", 1, 5, 6)])
        self.check_bad(NoHouse, 6, {1: 1}, letters=[("answer", 1, 1, 6)])
        self.check_bad(NoHouse, 8, {1: 1}, letters=[("tell", 1, 1), ("tell", 1, 8), ("tell", 2, 1)])
        self.check_bad(NoHouse, 0, {}, letters=[("tell", 0, 0)])

    def test_arguments_are_copied(self):
        nexts = {7: 1, 1: 7}
        befores = {7: 1}
        letters = [("tell", 7, 1)]
        net = Net(10, nexts, befores=befores, letters=letters)
        earlier = net.snapshot()
        nexts[4] = 4
        nexts[1] = 1
        befores[1] = 7
        letters.append(("ask", 7, 1))
        self.assertEqual(net.snapshot(), earlier)

    def test_arguments_stay(self):
        nexts = {7: 1, 1: 7}
        befores = {7: 1}
        letters = [("tell", 1, 7)]
        net = Net(10, nexts, befores=befores, letters=letters)
        net.read(0)
        net.admit(4, 7)
        net.hold(1, 4)
        net.set_before(7, None)
        net.tell(1)
        self.assertEqual(list(nexts.items()), [(7, 1), (1, 7)])
        self.assertEqual(befores, {7: 1})
        self.assertEqual(letters, [("tell", 1, 7)])


class ReadersTest(NetCase):
    def net(self):
        letters = [("ask", 4, 7), ("answer", 7, 4, 1)]
        return Net(10, {7: 4, 4: 1, 9: 9, 1: 7}, befores={9: 4, 1: 1}, letters=letters)

    def test_all_readers(self):
        net = self.net()
        self.assertEqual(net.size, 10)
        self.assertEqual(net.houses(), [1, 4, 7, 9])
        self.assertEqual(net.nexts(), {1: 7, 4: 1, 7: 4, 9: 9})
        self.assertEqual(net.befores(), {1: 1, 9: 4})
        self.assertEqual(net.letters(), [("ask", 4, 7), ("answer", 7, 4, 1)])
        self.assertEqual([net.next_of(house) for house in (1, 4, 7, 9)], [7, 1, 4, 9])
        self.assertEqual([net.before_of(house) for house in (1, 4, 7, 9)], [1, None, None, 4])
        rows = ((1, 7, 1), (4, 1, None), (7, 4, None), (9, 9, 4))
        self.assertEqual(net.snapshot(), (10, rows, (("ask", 4, 7), ("answer", 7, 4, 1))))

    def test_no_house(self):
        for place in (0, 5, -1, 10):
            self.check_fails(self.net(), NoHouse, place, "next_of", place)
            self.check_fails(self.net(), NoHouse, place, "before_of", place)
            self.check_fails(Net(10, {}), NoHouse, place, "next_of", place)

    def test_ascending_keys(self):
        net = Net(10, {9: 0, 0: 9, 5: 0}, befores={9: 0, 0: 5})
        net.admit(7, 7)
        net.admit(2, 9)
        net.set_before(2, 7)
        net.set_before(5, 0)
        self.assertEqual(list(net.nexts()), [0, 2, 5, 7, 9])
        self.assertEqual(list(net.befores()), [0, 2, 5, 9])
        self.assertEqual(net.houses(), [0, 2, 5, 7, 9])

    def test_what_is_returned_is_new(self):
        net = self.net()
        earlier = net.snapshot()
        net.houses().append(5)
        net.letters().pop()
        net.nexts()[1] = 1
        net.befores()[7] = 1
        self.assertEqual(net.snapshot(), earlier)

    def test_what_is_returned_does_not_change_later(self):
        net = self.net()
        found = [net.houses(), net.letters(), net.nexts(), net.befores(), net.snapshot()]
        again = [net.houses(), net.letters(), net.nexts(), net.befores(), net.snapshot()]
        net.read(0)
        net.hold(1, 1)
        net.set_before(7, 9)
        net.admit(5, 1)
        self.assertEqual(found, again)

    def test_clone_and_net_are_independent(self):
        for first_is_clone in (False, True):
            net = self.net()
            twin = net.clone()
            self.assertIsInstance(twin, Net)
            self.assertEqual(twin.snapshot(), net.snapshot())
            changed, other = (twin, net) if first_is_clone else (net, twin)
            earlier = other.snapshot()
            changed.hold(1, 1)
            changed.set_before(7, 9)
            changed.set_before(9, None)
            changed.admit(5, 1)
            changed.tell(5)
            changed.lose(0)
            self.assertEqual(other.snapshot(), earlier)
            self.assertNotEqual(changed.snapshot(), earlier)


class LimitsTest(NetCase):
    def test_forty_houses_and_two_hundred_letters(self):
        places = [25000000 * k for k in range(39)] + [GREAT - 1]
        nexts = dict(zip(places, places[1:] + places[:1]))
        net = Net(GREAT, nexts, letters=[("tell", 0, 0)] * 200)
        self.assertEqual(len(net.letters()), 200)
        self.assertEqual(net.tell(GREAT - 1), ("tell", 0, GREAT - 1))
        self.assertEqual(net.read(0), ("before", 0, 0))
        self.assertEqual(net.read(199), ("before", 0, GREAT - 1))
        self.assertEqual(len(net.clone().snapshot()[1]), 40)

    def test_circle_of_one_place(self):
        net = Net(1, {0: 0})
        net.tell(0)
        net.ask(0)
        self.assertEqual([net.read(0), net.read(0), net.read(0)], [("before", 0, 0), ("wrote", 0, 0), ("kept", 0, None)])


class ModelTest(NetCase):
    def test_does_what_the_model_does(self):
        chance = random.Random(15)
        seen = set()
        for _ in range(150):
            size = chance.choice([1, 2, 3, 5, 9])
            nexts = random_nexts(chance, size)
            net = Net(size, nexts)
            model = ModelNet(size, nexts)
            for _ in range(60):
                word, values = random_deed(chance, model)
                expected = getattr(model, word)(*values)
                self.assertEqual(getattr(net, word)(*values), expected)
                self.assertEqual(net.snapshot(), model.snapshot())
                if word == "read":
                    seen.add(expected[0])
        self.assertEqual(seen, {"before", "wrote", "next", "kept"})


if __name__ == "__main__":
    unittest.main()
