"""Points 90 to 93: desks, on which deeds are done, taken back and done again."""

import copy
import random
import unittest

from deed_case import WRONG_DEEDS, mender_after, random_deed, random_deeds, state_of
from net_case import mixed_nets, ring_nexts, true_net
from ringlaps.deeds import journal_text, parse_journal
from ringlaps.desk import Desk, replay
from ringlaps.errors import (
    BadDeed,
    NoHouse,
    NoLetter,
    NothingToRedo,
    NothingToUndo,
    OffCircle,
    TakenPlace,
)
from ringlaps.mender import Mender
from ringlaps.net import Net

GREAT = 1000000000
LAPPED = {1: 7, 4: 1, 7: 4}

# Deeds of each kind, none of which raises an error after those before it, with what they return.
RUN = [
    (("tell", 7), ("tell", 4, 7)),
    (("tell", 4), ("tell", 1, 4)),
    (("ask", 4), ("ask", 1, 4)),
    (("read", 0), ("before", 4, 7)),
    (("repeat", 1), ("ask", 1, 4)),
    (("lose", 2), ("ask", 1, 4)),
    (("read", 0), ("before", 1, 4)),
    (("read", 0), ("wrote", 1, 4)),
    (("read", 0), ("kept", 4, None)),
    (("admit", 8, 4), None),
    (("admit", 0, 0), None),
    (("calm",), 1),
    (("calm",), 0),
    (("lap", 1), (7, 1, 0, 6, None)),
    (("again", 0), (7, 1, 0, 6, None)),
    (("carry", 0), ("handed", 7, 8)),
    (("drop", 0), (7, 1, 0, 6, None)),
    (("carry", 0), ("handed", 8, 4)),
    (("carry", 0), ("handed", 4, 1)),
    (("carry", 0), ("home", 1, 1)),
    (("release", 4), 1),
    (("lap", 4), (4, 4, 0, 10, None)),
    (("release", 4), 4),
    (("carry", 0), ("home", 4, 1)),
]

# The deeds by which house 1 of a ring of two turns comes to let go.
LETTING_GO = [deed for _ in range(3) for deed in (("lap", 1), ("carry", 0), ("carry", 0), ("carry", 0))]


def lapped_desk():
    return Desk(Net(10, LAPPED))


def run_deeds():
    return [deed for deed, _ in RUN]


class DeskCase(unittest.TestCase):
    def check_desk(self, desk, net, deeds):
        """Check all that a desk tells, twice: it comes from the net at the beginning and the deeds."""
        mender = mender_after(net, deeds)
        for _ in range(2):
            self.assertEqual(desk.state(), state_of(mender))
            self.assertEqual(desk.journal(), deeds)
            self.assertEqual(desk.text(), journal_text(net, deeds))
            desk.journal().clear()
        self.assertIsInstance(desk.net, Net)
        self.assertIsInstance(desk.mender, Mender)
        self.assertIs(desk.mender.net, desk.net)
        self.assertEqual(state_of(desk.mender), desk.state())

    def check_refused(self, desk, name, *args, error):
        """Check that a call raises an error of this kind and values, and changes nothing."""
        earlier = (desk.state(), desk.journal(), desk.text())
        passed = copy.deepcopy(args)
        with self.subTest(name=name, args=args):
            with self.assertRaises(type(error)) as caught:
                getattr(desk, name)(*args)
            self.assertEqual(vars(caught.exception), vars(error))
            self.assertEqual((desk.state(), desk.journal(), desk.text()), earlier)
            self.assertEqual(args, passed)
            self.assertIs(desk.mender.net, desk.net)

    def check_redone(self, desk, deeds):
        """Check that just these deeds can be done again, in this order, and take them back again."""
        for deed in deeds:
            self.assertEqual(desk.redo(), deed)
        self.check_refused(desk, "redo", error=NothingToRedo())
        for deed in deeds[::-1]:
            self.assertEqual(desk.undo(), deed)

    def undone_desk(self):
        """Return a desk with two recorded deeds behind which three were taken back, and those."""
        desk = lapped_desk()
        deeds = [("tell", 7), ("lap", 4), ("carry", 0), ("read", 0), ("admit", 8, 4)]
        for deed in deeds:
            desk.do(deed)
        for _ in range(3):
            desk.undo()
        return desk, deeds[2:]


class DoTest(DeskCase):
    """Point 90."""

    def test_new_desk(self):
        for net in [Net(10, {}), Net(10, LAPPED, befores={1: 4}, letters=[("ask", 4, 7)]), Net(1, {0: 0})]:
            desk = Desk(net)
            self.check_desk(desk, net, [])
            self.assertIsNot(desk.net, net)
            self.check_refused(desk, "undo", error=NothingToUndo())
            self.check_refused(desk, "redo", error=NothingToRedo())

    def test_what_each_deed_returns(self):
        net = Net(10, LAPPED)
        desk = Desk(net)
        for count, (deed, result) in enumerate(RUN):
            found = desk.do(deed)
            self.assertEqual(found, result, deed)
            self.assertIs(type(found), type(result))
            self.check_desk(desk, net, run_deeds()[: count + 1])
        words = "tell ask read lose repeat admit release calm lap carry drop again"
        self.assertEqual({deed[0] for deed in run_deeds()}, set(words.split()))

    def test_carry_that_lets_a_house_go(self):
        net = Net(10, LAPPED)
        desk = Desk(net)
        found = [desk.do(deed) for deed in LETTING_GO]
        self.assertEqual(found[3::4], [("home", 1, 1), ("home", 1, 2), ("let go", 1, 3)])
        self.check_desk(desk, net, LETTING_GO)
        self.assertEqual(desk.mender.healers(), [1])
        self.assertIsNone(desk.do(("lap", 1)))
        self.check_desk(desk, net, [*LETTING_GO, ("lap", 1)])

    def test_release_leaves_the_memory_and_is_no_healing(self):
        desk = lapped_desk()
        for deed in LETTING_GO[:9]:
            desk.do(deed)
        memory = desk.mender.memory(1)
        self.assertEqual(memory, (2, 20, None, False))
        self.assertEqual(desk.do(("release", 1)), 7)
        self.assertEqual(desk.net.nexts(), {1: 1, 4: 1, 7: 4})
        self.assertEqual(desk.mender.memory(1), memory)
        self.assertEqual(desk.mender.healers(), [])
        # It does not swallow either: the letter of 4 goes on.
        desk.do(("lap", 4))
        self.assertEqual(desk.do(("carry", 1)), ("handed", 1, 1))

    def test_calm_counts_the_changed_nexts(self):
        desk = Desk(Net(10, {1: 1, 4: 1, 7: 1, 9: 1}))
        self.assertEqual([desk.do(("calm",)) for _ in range(5)], [3, 2, 1, 0, 0])
        self.assertEqual(desk.net.nexts(), ring_nexts([1, 4, 7, 9]))

    def test_tuples_that_are_no_deeds(self):
        for deed in WRONG_DEEDS:
            self.check_refused(lapped_desk(), "do", deed, error=BadDeed(deed))
            desk, undone = self.undone_desk()
            self.check_refused(desk, "do", deed, error=BadDeed(deed))
            self.check_redone(desk, undone)

    def test_errors_of_the_calls_are_passed_on(self):
        desk, undone = self.undone_desk()
        for deed, error in [
            (("tell", 3), NoHouse(3)),
            (("ask", 10), NoHouse(10)),
            (("read", 1), NoLetter(1)),
            (("read", -1), NoLetter(-1)),
            (("lose", 1), NoLetter(1)),
            (("repeat", 5), NoLetter(5)),
            (("admit", 10, 4), OffCircle(10)),
            (("admit", 7, 4), TakenPlace(7)),
            (("admit", 8, 5), NoHouse(5)),
            (("release", 0), NoHouse(0)),
            (("lap", 8), NoHouse(8)),
            (("carry", 1), NoLetter(1)),
            (("carry", -1), NoLetter(-1)),
            (("drop", 1), NoLetter(1)),
            (("again", GREAT), NoLetter(GREAT)),
        ]:
            net, mender = desk.net, desk.mender
            self.check_refused(desk, "do", deed, error=error)
            self.assertIs(desk.net, net)
            self.assertIs(desk.mender, mender)
            self.check_redone(desk, undone)

    def test_deeds_that_change_nothing_are_recorded_and_forget(self):
        settled = [*LETTING_GO, *[("calm",)] * 4]
        for deed, deeds in [(("release", 1), LETTING_GO), (("lap", 1), LETTING_GO), (("calm",), settled)]:
            net = Net(10, LAPPED)
            desk = Desk(net)
            desk.do_all([*deeds, ("tell", 4)])
            desk.undo()
            state = desk.state()
            desk.do(deed)
            self.assertEqual(desk.state(), state)
            self.check_desk(desk, net, [*deeds, deed])
            self.check_refused(desk, "redo", error=NothingToRedo())
            self.assertEqual(desk.undo(), deed)
            self.check_desk(desk, net, deeds)

    def test_net_that_is_passed(self):
        net = Net(10, LAPPED)
        earlier = net.snapshot()
        desk = Desk(net)
        for deed in run_deeds():
            desk.do(deed)
        self.assertEqual(net.snapshot(), earlier)
        # Later changes of the net have no effect, not even when all is taken back.
        old = net.clone()
        net.hold(1, 1)
        net.tell(4)
        net.admit(3, 3)
        self.check_desk(desk, old, run_deeds())
        while desk.journal():
            desk.undo()
        self.check_desk(desk, old, [])

    def test_net_and_mender_stay_the_same_objects(self):
        desk = lapped_desk()
        net, mender = desk.net, desk.mender
        for deed in run_deeds():
            desk.do(deed)
            self.assertEqual(net.snapshot(), desk.state()[0])
            self.assertEqual(tuple(mender.laps()), desk.state()[1])
        desk.do_all([("tell", 1), ("lap", 7)])
        desk.do_all([])
        for name in ("journal", "text", "state"):
            getattr(desk, name)()
        with self.assertRaises(BadDeed):
            desk.do(("jump", 1))
        with self.assertRaises(NothingToRedo):
            desk.redo()
        self.assertIs(desk.net, net)
        self.assertIs(desk.mender, mender)
        self.assertEqual(net.letters(), [("tell", 7, 1)])
        self.assertEqual(mender.laps(), [(8, 7, 0, 1, None)])

    def test_net_and_mender_after_undo_redo_and_errors(self):
        net = Net(10, LAPPED)
        desk = Desk(net)
        desk.do_all(run_deeds())
        for names in (["undo"], ["undo", "redo"], ["undo", "undo", "redo"]):
            for name in names:
                getattr(desk, name)()
            deeds = self.check_later_deeds(desk, net, desk.journal())
            self.check_refused(desk, "do_all", [("calm",), ("jump", 1)], error=BadDeed(("jump", 1)))
            deeds = self.check_later_deeds(desk, net, deeds)

    def check_later_deeds(self, desk, net, deeds):
        """Check that later deeds show in the net and the mender that the desk has now."""
        held, mender = desk.net, desk.mender
        deeds = [*deeds, ("tell", 4), ("lap", 7)]
        desk.do(deeds[-2])
        desk.do_all(deeds[-1:])
        self.assertIs(desk.net, held)
        self.assertIs(desk.mender, mender)
        self.assertEqual((held.letters()[-1][0], mender.laps()[-1][1]), ("tell", 7))
        self.check_desk(desk, net, deeds)
        return deeds

    def test_two_desks_of_one_net(self):
        net = Net(10, LAPPED)
        first, second = Desk(net), Desk(net)
        first.do(("release", 1))
        self.check_desk(second, net, [])
        second.do(("lap", 4))
        self.check_desk(first, net, [("release", 1)])


class UndoTest(DeskCase):
    """Point 91."""

    def test_back_to_the_beginning_and_up_to_the_end(self):
        net = Net(10, LAPPED)
        for deeds in (run_deeds(), LETTING_GO):
            desk = Desk(net)
            for deed in deeds:
                desk.do(deed)
            for _ in range(2):
                for count in range(len(deeds) - 1, -1, -1):
                    self.assertEqual(desk.undo(), deeds[count])
                    self.check_desk(desk, net, deeds[:count])
                self.check_refused(desk, "undo", error=NothingToUndo())
                for count, deed in enumerate(deeds):
                    self.assertEqual(desk.redo(), deed)
                    self.check_desk(desk, net, deeds[: count + 1])
                self.check_refused(desk, "redo", error=NothingToRedo())

    def test_each_kind_of_deed_is_taken_back(self):
        net = Net(10, LAPPED)
        desk = Desk(net)
        for count, deed in enumerate(run_deeds()):
            earlier = desk.state()
            desk.do(deed)
            later = desk.state()
            self.assertEqual(desk.undo(), deed)
            self.assertEqual(desk.state(), earlier)
            self.check_desk(desk, net, run_deeds()[:count])
            self.assertEqual(desk.redo(), deed)
            self.assertEqual(desk.state(), later)

    def test_house_that_has_let_go(self):
        desk = lapped_desk()
        desk.do_all(LETTING_GO)
        self.assertEqual((desk.mender.healers(), desk.mender.memory(1)), ([1], (3, 20, None, True)))
        desk.undo()
        self.assertEqual((desk.mender.healers(), desk.mender.memory(1)), ([], (2, 20, None, False)))
        self.assertEqual((desk.mender.laps(), desk.net.next_of(1)), ([(1, 1, 2, 20, 4)], 7))
        desk.redo()
        self.assertEqual((desk.mender.healers(), desk.mender.memory(1)), ([1], (3, 20, None, True)))
        self.assertEqual((desk.mender.laps(), desk.net.next_of(1)), ([], 1))

    def test_house_that_was_admitted(self):
        desk = lapped_desk()
        desk.do_all([("admit", 8, 4), ("admit", 9, 8), ("lap", 9), ("carry", 0)])
        self.assertEqual(desk.mender.memory(8), (0, 0, 9, False))
        for _ in range(4):
            desk.undo()
        self.assertEqual(desk.net.houses(), [1, 4, 7])
        # The place remembers nothing of what was taken back.
        desk.do(("admit", 8, 1))
        self.assertEqual(desk.mender.memory(8), (0, 0, None, False))

    def test_deed_after_an_undo_forgets(self):
        desk, undone = self.undone_desk()
        self.check_redone(desk, undone)
        desk.do(("tell", 7))
        self.check_refused(desk, "redo", error=NothingToRedo())
        self.assertEqual(desk.journal(), [("tell", 7), ("lap", 4), ("tell", 7)])
        desk.undo()
        self.check_redone(desk, [("tell", 7)])
        # A deed that is the very one that could be redone forgets all behind it, too.
        desk, undone = self.undone_desk()
        desk.do(undone[0])
        self.check_refused(desk, "redo", error=NothingToRedo())

    def test_redo_forgets_nothing_behind_it(self):
        desk, undone = self.undone_desk()
        self.assertEqual(desk.redo(), undone[0])
        self.check_redone(desk, undone[1:])
        self.assertEqual(desk.undo(), undone[0])
        self.check_redone(desk, undone)

    def test_text(self):
        net = Net(10, LAPPED, befores={4: 7}, letters=[("ask", 4, 7)])
        desk = Desk(net)
        desk.do_all([("read", 0), ("admit", 8, 4), ("calm",)])
        lines = ["circle 10", "house 1 next 7", "house 4 next 1 before 7", "house 7 next 4", "ask 4 from 7", "deeds"]
        lines += ["read 0", "admit 8 host 4", "calm"]
        self.assertEqual(desk.text().split("\n"), lines)
        desk.undo()
        self.assertEqual(desk.text().split("\n"), lines[:-1])
        found, deeds = parse_journal(desk.text())
        self.assertEqual(replay(found, deeds).state(), desk.state())

    def test_longest_journal(self):
        places = list(range(0, GREAT, GREAT // 40))
        desk = Desk(Net(GREAT, ring_nexts(places[::-1])))
        states = [desk.state()]
        for at in range(200):
            desk.do([("tell", places[at % 40]), ("lap", places[at % 40]), ("calm",), ("carry", 0)][at % 4])
            states.append(desk.state())
        for at in range(199, -1, -1):
            desk.undo()
            self.assertEqual(desk.state(), states[at])
        for at in range(1, 201):
            desk.redo()
            self.assertEqual(desk.state(), states[at])


class DoAllTest(DeskCase):
    """Point 92."""

    def test_what_is_returned(self):
        net = Net(10, LAPPED)
        desk = Desk(net)
        deeds = run_deeds()
        found = desk.do_all(deeds)
        self.assertEqual(found, [result for _, result in RUN])
        self.assertIs(type(found), list)
        self.assertEqual(deeds, run_deeds())
        self.check_desk(desk, net, deeds)
        deeds.clear()
        self.check_desk(desk, net, run_deeds())

    def test_each_deed_is_recorded_by_itself(self):
        net = Net(10, LAPPED)
        desk = Desk(net)
        desk.do_all(run_deeds())
        self.assertEqual(desk.undo(), RUN[-1][0])
        self.check_desk(desk, net, run_deeds()[:-1])
        self.assertEqual(desk.undo(), RUN[-2][0])
        self.check_redone(desk, run_deeds()[-2:])

    def test_it_forgets_what_was_taken_back(self):
        desk, _ = self.undone_desk()
        desk.do_all([("calm",)])
        self.check_refused(desk, "redo", error=NothingToRedo())

    def test_empty_list(self):
        desk, undone = self.undone_desk()
        earlier = (desk.state(), desk.journal(), desk.net, desk.mender)
        self.assertEqual(desk.do_all([]), [])
        self.assertEqual((desk.state(), desk.journal(), desk.net, desk.mender), earlier)
        self.check_redone(desk, undone)
        self.assertEqual(lapped_desk().do_all([]), [])

    def test_error_at_the_first_a_middle_and_the_last_deed(self):
        good = [("admit", 8, 4), ("read", 0), ("carry", 0), ("calm",), ("release", 1)]
        for wrong, error in [
            (("tell", 3), NoHouse(3)),
            (("read", 7), NoLetter(7)),
            (("drop", -1), NoLetter(-1)),
            (("admit", 4, 4), TakenPlace(4)),
            (("admit", 10, 4), OffCircle(10)),
            ((), BadDeed(())),
            (("jump", 1), BadDeed(("jump", 1))),
            (("calm", 1), BadDeed(("calm", 1))),
        ]:
            for at in (0, 2, 5):
                desk, undone = self.undone_desk()
                self.check_refused(desk, "do_all", [*good[:at], wrong, *good[at:]], error=error)
                self.check_redone(desk, undone)
                self.assertEqual(desk.do_all(good)[-1], 7)

    def test_error_in_a_new_desk(self):
        desk = lapped_desk()
        self.check_refused(desk, "do_all", [*LETTING_GO, ("carry", 0)], error=NoLetter(0))
        self.check_refused(desk, "undo", error=NothingToUndo())
        self.check_refused(desk, "redo", error=NothingToRedo())
        self.check_desk(desk, Net(10, LAPPED), [])

    def test_each_deed_is_checked_when_its_turn_comes(self):
        desk = lapped_desk()
        self.check_refused(desk, "do_all", [("tell", 3), ("jump",)], error=NoHouse(3))
        self.check_refused(desk, "do_all", [("jump",), ("tell", 3)], error=BadDeed(("jump",)))
        self.check_refused(desk, "do_all", [("tell", 8), ("admit", 8, 4)], error=NoHouse(8))
        self.assertEqual(desk.do_all([("admit", 8, 4), ("tell", 8)]), [None, ("tell", 4, 8)])
        self.check_refused(desk, "do_all", [("read", 0), ("read", 0)], error=NoLetter(0))

    def test_deeds_go_on_after_an_error(self):
        net = Net(10, LAPPED)
        desk = Desk(net)
        deeds = run_deeds()
        desk.do_all(deeds[:10])
        self.check_refused(desk, "do_all", [*deeds[10:], ()], error=BadDeed(()))
        for deed in deeds[10:]:
            desk.do(deed)
        self.check_desk(desk, net, deeds)
        self.assertEqual(desk.undo(), deeds[-1])
        self.check_desk(desk, net, deeds[:-1])


class StateTest(DeskCase):
    """Point 93."""

    def test_four_parts(self):
        desk = lapped_desk()
        rows = tuple((house, 0, 0, None, False) for house in (1, 4, 7))
        self.assertEqual(desk.state(), ((10, ((1, 7, None), (4, 1, None), (7, 4, None)), ()), (), rows, ()))
        desk.do_all([*LETTING_GO, ("lap", 4), ("again", 0), ("tell", 7), ("admit", 0, 7)])
        snapshot = (10, ((0, 7, None), (1, 1, None), (4, 1, None), (7, 4, None)), (("tell", 4, 7),))
        rows = ((0, 0, 0, None, False), (1, 3, 20, None, True), (4, 0, 0, 1, False), (7, 0, 0, 1, False))
        self.assertEqual(desk.state(), (snapshot, ((1, 4, 0, 7, None),) * 2, rows, (1,)))
        for part in desk.state():
            self.assertIs(type(part), tuple)
        for part in desk.state()[2]:
            self.assertIs(type(part), tuple)
            self.assertIsInstance(part[4], bool)

    def test_houses_are_listed_as_they_let_go(self):
        nexts = ring_nexts([2, 8, 5], [9, 16, 12])
        desk = Desk(Net(20, nexts))
        for house in (9, 2):
            desk.do_all([deed for _ in range(3) for deed in (("lap", house), *[("carry", 0)] * 3)])
        self.assertEqual(desk.state()[3], (9, 2))

    def test_replay(self):
        net = Net(10, LAPPED)
        earlier = net.snapshot()
        deeds = run_deeds()
        desk = replay(net, deeds)
        self.assertIsInstance(desk, Desk)
        self.check_desk(desk, net, deeds)
        self.assertEqual((net.snapshot(), deeds), (earlier, run_deeds()))
        self.assertEqual(desk.undo(), deeds[-1])
        self.check_redone(desk, deeds[-1:])
        self.check_desk(replay(net, []), net, [])
        net.hold(1, 1)
        self.check_desk(desk, Net(10, LAPPED), deeds[:-1])

    def test_replay_of_deeds_with_an_error(self):
        net = Net(10, LAPPED)
        earlier = net.snapshot()
        for deeds, error in [
            ([("tell", 3)], NoHouse(3)),
            ([("tell", 4), ("read", 1), ("jump",)], NoLetter(1)),
            ([*run_deeds(), ("jump",), ("tell", 3)], BadDeed(("jump",))),
            ([()], BadDeed(())),
        ]:
            with self.assertRaises(type(error)) as caught:
                replay(net, deeds)
            self.assertEqual(vars(caught.exception), vars(error))
            self.assertEqual(net.snapshot(), earlier)

    def test_state_depends_on_the_net_and_the_recorded_deeds_only(self):
        chance = random.Random(93)
        for net in mixed_nets(chance, 40):
            desk = Desk(net)
            undone = []
            for _ in range(40):
                undone = self.random_step(chance, desk, undone)
                self.check_desk(desk, net, desk.journal())
                self.assertEqual(replay(net, desk.journal()).state(), desk.state())
                self.check_redone(desk, undone)

    def random_step(self, chance, desk, undone):
        """Do one call and return the deeds that can be done again then, the first one first."""
        step = chance.random()
        journal = desk.journal()
        if step < 0.25 and journal:
            self.assertEqual(desk.undo(), journal[-1])
            return [journal[-1], *undone]
        if step < 0.4 and undone:
            self.assertEqual(desk.redo(), undone[0])
            self.assertEqual(desk.journal(), [*journal, undone[0]])
            return undone[1:]
        if step < 0.5:
            wrong = chance.choice(WRONG_DEEDS)
            deeds = self.plain_deeds(chance, desk)
            self.check_refused(desk, "do_all", [*deeds, wrong, *deeds], error=BadDeed(wrong))
            return undone
        if step < 0.6:
            deeds = self.plain_deeds(chance, desk)
            desk.do_all(deeds)
            self.assertEqual(desk.journal(), [*journal, *deeds])
            return [] if deeds else undone
        desk.do(random_deed(chance, desk.mender, release=0.1))
        return []

    def plain_deeds(self, chance, desk):
        """Return some deeds that raise no error in whatever order they are done."""
        houses = desk.net.houses()
        return [(chance.choice(["tell", "ask", "lap"]), chance.choice(houses)) for _ in range(chance.randrange(4))]

    def test_text_of_random_runs(self):
        chance = random.Random(94)
        for _ in range(40):
            net = true_net(chance, 8)
            deeds = random_deeds(chance, net, 30, release=0.05)
            desk = replay(net, deeds)
            found, listed = parse_journal(desk.text())
            self.assertEqual(listed, deeds)
            self.assertEqual(replay(found, listed).state(), desk.state())
            self.assertEqual(desk.text(), journal_text(net, deeds))
