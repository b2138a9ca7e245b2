"""Points 94 to 97: audits, due meanings, surprises, and the changes of nexts."""

import copy
import random

from deed_case import WRONG_DEEDS, call_of, random_deed, random_deeds
from net_case import NetCase, mixed_nets, ring_nexts, true_net
from piece_model import Model
from ringlaps.audit import audit, first_surprise, next_changes, next_meaning
from ringlaps.clear import is_clear
from ringlaps.errors import BadDeed, NoHouse, NoLetter, OffCircle, TakenPlace, Untold
from ringlaps.mender import Mender
from ringlaps.net import Net
from ringlaps.pieces import on_ring, piece_of
from ringlaps.sayings import piece_is_true

GREAT = 1000000000
LAPPED = {1: 7, 4: 1, 7: 4}

# A ring of two turns with the marks 1, 7, 8 and 14, and a ring of one turn.
TOLD = [(2, (1, 7, 8, 4)), (1, (2, 9))]

# The deeds by which a round letter of house 1 comes home along its ring of two turns.
ROUND = [("lap", 1), ("carry", 0), ("carry", 0), ("carry", 0)]


def meaning_of(net):
    told = Model(net).meaning()
    return None if None in told else told


def steps_of(net, deeds):
    """Return a copy of the net with what each deed returned, one after the other."""
    mender = Mender(net.clone())
    for deed in deeds:
        result = call_of(mender, deed)
        yield mender.net, result


class AuditTest(NetCase):
    """Point 94."""

    def test_example(self):
        net = Net(10, LAPPED)
        told = [[(2, (1, 7, 4))], [(2, (1, 7, 8, 4))], [(1, (1, 4, 7, 8))], [(1, (1, 4, 7, 8))]]
        self.check_tells(audit, net, [("admit", 8, 4), ("release", 4), ("calm",)], result=told)
        deeds = [("release", 4), ("calm",), ("release", 1)]
        self.check_tells(first_surprise, net, deeds, result=2)

    def test_no_deeds(self):
        self.check_tells(audit, Net(10, {}), [], result=[[]])
        self.check_tells(audit, Net(10, LAPPED), [], result=[[(2, (1, 7, 4))]])
        self.check_tells(audit, Net(10, LAPPED, befores={4: 1}), [], result=[None])

    def test_items_are_lists_of_their_own(self):
        net = Net(10, LAPPED)
        found = audit(net, [("tell", 1)] * 3)
        found[0].append((1, (0,)))
        found[2].clear()
        self.assertEqual(found[1], [(2, (1, 7, 4))])
        self.assertEqual(found[3], [(2, (1, 7, 4))])

    def test_nets_without_a_meaning(self):
        net = Net(10, LAPPED, befores={4: 4})
        # The before is put right by a letter.
        deeds = [("tell", 7), ("read", 0), ("release", 1)]
        true, clear = [(2, (1, 7, 4))], [(1, (1, 4, 7))]
        self.check_tells(audit, net, deeds, result=[None, None, true, clear])
        net = Net(10, {1: 4, 4: 7, 7: 1}, befores={4: 7})
        deeds = [("tell", 4), ("release", 1), ("admit", 5, 4), ("calm",)]
        self.check_tells(audit, net, deeds, result=[[(1, (1, 4, 7))]] * 3 + [[(1, (1, 4, 5, 7))]] * 2)

    def test_meaning_that_is_lost(self):
        net = Net(10, ring_nexts([1, 4, 7]), befores={1: 7, 4: 1, 7: 4})
        one = [(1, (1, 4, 7))]
        deeds = [("release", 4), ("release", 7), ("release", 1)]
        self.check_tells(audit, net, deeds, result=[one, one, None, None])

    def test_round_letters(self):
        told, healed = [(2, (1, 7, 4))], [(1, (1, 4, 7))]
        self.check_tells(audit, Net(10, LAPPED), ROUND * 3, result=[told] * 12 + [healed])

    def test_against_the_model(self):
        chance = random.Random(94)
        untold = 0
        for net in mixed_nets(chance, 80):
            deeds = random_deeds(chance, net, 12, release=0.2)
            told = [meaning_of(net), *[meaning_of(later) for later, _ in steps_of(net, deeds)]]
            self.check_tells(audit, net, deeds, result=told)
            untold += told.count(None)
        self.assertGreater(untold, 30)

    def check_errors(self, function):
        """Check that the first error of a deed is passed on."""
        net = Net(10, LAPPED)
        for deed, error in [
            (("tell", 3), NoHouse(3)),
            (("read", 0), NoLetter(0)),
            (("carry", -1), NoLetter(-1)),
            (("admit", 10, 4), OffCircle(10)),
            (("admit", 7, 4), TakenPlace(7)),
            (("admit", 8, 3), NoHouse(3)),
            (("release", 8), NoHouse(8)),
            (("lap", 8), NoHouse(8)),
        ]:
            for deeds in ([deed], [("calm",), deed], [deed, ("jump",)], [("lap", 4), ("drop", 0), deed, ("ask", 3)]):
                self.check_fails(function, net, deeds, error=error)
        for wrong in WRONG_DEEDS:
            for deeds in ([wrong], [("calm",), wrong, ("tell", 3)]):
                self.check_fails(function, net, deeds, error=BadDeed(wrong))
        self.check_fails(function, net, [("tell", 8), ("admit", 8, 4)], error=NoHouse(8))

    def test_errors_are_passed_on(self):
        self.check_errors(audit)
        self.check_errors(next_changes)
        self.check_errors(first_surprise)
        net = Net(10, LAPPED, befores={4: 1})
        for function in (audit, next_changes):
            self.check_fails(function, net, [("tell", 4), ("tell", 3)], error=NoHouse(3))


class NextMeaningTest(NetCase):
    """Point 95."""

    def check_due(self, told, deed, result, due, size=10):
        passed = copy.deepcopy(told)
        for _ in range(2):
            found = next_meaning(size, told, deed, result)
            self.check_same(found, due)
            found.append((1, (0,)))
            self.assertEqual(told, passed)

    def test_admit(self):
        self.check_due(TOLD, ("admit", 3, 3), None, [TOLD[0], TOLD[1], (1, (3,))])
        self.check_due(TOLD, ("admit", 6, 7), None, [(2, (1, 6, 7, 8, 4)), TOLD[1]])
        self.check_due(TOLD, ("admit", 6, 1), None, [(2, (1, 7, 8, 4, 6)), TOLD[1]])
        self.check_due(TOLD, ("admit", 0, 9), None, [(1, (0, 2, 9)), TOLD[0]])
        self.check_due([], ("admit", 0, 0), None, [(1, (0,))])
        # From 19 up to 4 it is 5 on a circle of 20 places, and 1 and 14 are marks of 1 and 4 there.
        self.check_due([(1, (1, 4))], ("admit", 19, 4), None, [(1, (1, 4, 19))], size=20)
        self.check_due([(2, (1, 8, 4))], ("admit", 19, 4), None, [(2, (1, 8, 19, 4))], size=20)

    def test_release(self):
        self.check_due(TOLD, ("release", 8), 4, [(1, (1, 4, 7, 8)), TOLD[1]])
        self.check_due(TOLD, ("release", 2), 9, TOLD)
        self.check_due(TOLD, ("release", 4), 4, [(1, (1, 4, 7, 8)), TOLD[1]])

    def test_carry_that_lets_a_house_go(self):
        # The house is told by the result; the index of the deed may look like a house.
        for at in (0, 2, 4):
            self.check_due(TOLD, ("carry", at), ("let go", 1, 3), [(1, (1, 4, 7, 8)), TOLD[1]])
            self.check_due(TOLD, ("carry", at), ("let go", 9, 3), TOLD)

    def test_all_other_deeds(self):
        for deed, result in [
            (("tell", 7), ("tell", 4, 7)),
            (("ask", 7), ("ask", 4, 7)),
            (("read", 0), ("before", 4, 7)),
            (("read", 0), ("wrote", 1, 4)),
            (("read", 0), ("next", 1, 4)),
            (("read", 0), ("kept", 4, None)),
            (("lose", 0), ("answer", 4, 7, 1)),
            (("repeat", 0), ("tell", 4, 7)),
            (("calm",), 0),
            (("calm",), 3),
            (("lap", 1), (7, 1, 0, 6, None)),
            (("lap", 1), None),
            (("carry", 0), ("handed", 7, 4)),
            (("carry", 0), ("swallowed", 1, 4)),
            (("carry", 0), ("stale", 1, 3)),
            (("carry", 1), ("home", 1, 2)),
            (("carry", 1), ("home", 1, 3)),
            (("drop", 0), (7, 1, 2, 6, None)),
            (("again", 0), (7, 1, 2, 6, None)),
        ]:
            self.check_due(TOLD, deed, result, TOLD)
            self.check_due([], deed, result, [])

    def test_errors(self):
        for deed, error in [
            (("admit", 10, 1), OffCircle(10)),
            (("admit", -1, 1), OffCircle(-1)),
            (("admit", 8, 1), TakenPlace(8)),
            (("admit", 9, 9), TakenPlace(9)),
            (("admit", 3, 5), NoHouse(5)),
            (("release", 3), NoHouse(3)),
        ]:
            passed = copy.deepcopy(TOLD)
            with self.assertRaises(type(error)) as caught:
                next_meaning(10, passed, deed, None)
            self.assertEqual(vars(caught.exception), vars(error))
            self.assertEqual(passed, TOLD)
        with self.assertRaises(NoHouse) as caught:
            next_meaning(10, TOLD, ("carry", 1), ("let go", 3, 3))
        self.assertEqual(caught.exception.place, 3)


class SurpriseTest(NetCase):
    """Points 95 and 96."""

    def test_no_deeds(self):
        self.check_tells(first_surprise, Net(10, {}), [], result=None)
        self.check_tells(first_surprise, Net(10, LAPPED), [], result=None)

    def test_no_surprise(self):
        deeds = [("tell", 4), ("admit", 8, 4), ("read", 0), ("admit", 0, 0), ("calm",), ("release", 8), ("calm",)]
        self.check_tells(first_surprise, Net(10, LAPPED), deeds, result=None)
        self.check_tells(first_surprise, Net(10, LAPPED), ROUND * 3, result=None)

    def test_house_that_is_released_off_the_ring(self):
        net = Net(10, {**LAPPED, 8: 4})
        self.check_tells(first_surprise, net, [("release", 8)], result=0)
        self.check_tells(first_surprise, net, [("calm",), ("release", 8)], result=None)
        self.check_tells(first_surprise, net, [("tell", 8), ("lap", 8), ("release", 8), ("calm",)], result=2)

    def test_house_that_is_released_while_the_piece_is_clear_towards_another(self):
        net = Net(10, LAPPED)
        self.check_tells(first_surprise, net, [("release", 4), ("release", 4)], result=None)
        self.check_tells(first_surprise, net, [("release", 4), ("release", 1)], result=1)
        self.check_tells(first_surprise, net, [("release", 4), *[("calm",)] * 4, ("release", 1)], result=None)

    def test_net_without_a_meaning_is_a_surprise(self):
        net = Net(10, ring_nexts([1, 4, 7]), befores={1: 7, 4: 1, 7: 4})
        deeds = [("release", 4), ("release", 7), ("tell", 1)]
        self.check_tells(audit, net, deeds, result=[[(1, (1, 4, 7))]] * 2 + [None] * 2)
        self.check_tells(first_surprise, net, deeds, result=1)

    def test_carry_that_lets_a_house_go_after_a_release(self):
        deeds = [*ROUND * 2, *ROUND[:3], ("release", 4), ("carry", 0)]
        self.check_tells(first_surprise, Net(10, LAPPED), deeds, result=12)
        self.check_tells(first_surprise, Net(10, LAPPED), deeds[:12], result=None)
        self.check_tells(audit, Net(10, LAPPED), deeds, result=self.meanings(Net(10, LAPPED), deeds))

    def meanings(self, net, deeds):
        return [meaning_of(net), *[meaning_of(later) for later, _ in steps_of(net, deeds)]]

    def test_it_ends_at_the_first_surprise(self):
        net = Net(10, {**LAPPED, 8: 4})
        for later in ([("release", 8)], [("tell", 3)], [()], [("jump", 1)], [("release", 1), ("read", 9)]):
            self.check_tells(first_surprise, net, [("release", 8), *later], result=0)
            self.check_tells(first_surprise, net, [("lap", 1), ("release", 8), *later], result=1)

    def test_errors_ahead_of_a_surprise(self):
        net = Net(10, {**LAPPED, 8: 4})
        for wrong, error in [(("tell", 3), NoHouse(3)), ((), BadDeed(())), (("drop", 0), NoLetter(0))]:
            self.check_fails(first_surprise, net, [wrong, ("release", 8)], error=error)
            self.check_fails(first_surprise, net, [("calm",), ("lap", 8), ("drop", 0), wrong], error=error)

    def test_untold_at_the_beginning(self):
        nexts = {**ring_nexts([3, 9, 6], [1, 7, 4]), 0: 0}
        net = Net(10, nexts, befores={6: 3, 4: 1})
        for deeds in ([], [("calm",)], [()], [("tell", 2)], [("tell", 9), ("read", 0)]):
            self.check_fails(first_surprise, net, deeds, error=Untold(1))
        self.check_fails(first_surprise, Net(10, nexts, befores={6: 3}), [], error=Untold(3))

    def test_piece_that_is_clear_only(self):
        net = Net(10, {1: 1, 4: 1, 7: 4}, befores={7: 1})
        deeds = [("tell", 4), ("admit", 9, 7), ("calm",), ("read", 0), ("release", 1), ("calm",)]
        self.check_tells(first_surprise, net, deeds, result=None)
        self.check_tells(first_surprise, net, [("lap", 4), ("release", 4)], result=1)

    def test_by_the_words_of_the_point(self):
        chance = random.Random(95)
        found = {}
        for net in mixed_nets(chance, 150):
            deeds = random_deeds(chance, net, 12, release=0.25)
            told = meaning_of(net)
            if told is None:
                place = [piece[0] for piece, pair in zip(Model(net).pieces(), Model(net).meaning()) if pair is None][0]
                self.check_fails(first_surprise, net, deeds, error=Untold(place))
                continue
            surprise = None
            for at, (later, result) in enumerate(steps_of(net, deeds)):
                due = next_meaning(net.size, told, deeds[at], result)
                told = meaning_of(later)
                if told != due:
                    surprise = at
                    break
            self.check_tells(first_surprise, net, deeds, result=surprise)
            found[surprise] = found.get(surprise, 0) + 1
        self.assertGreater(found[None], 30)
        self.assertGreater(len(found), 6)

    def test_true_nets_without_release(self):
        chance = random.Random(96)
        for _ in range(60):
            net = true_net(chance, chance.choice([3, 5, 8, 11]))
            deeds = random_deeds(chance, net, 40)
            self.check_tells(first_surprise, net, deeds, result=None)

    def test_houses_that_may_be_released(self):
        chance = random.Random(97)
        released = 0
        for _ in range(60):
            net = true_net(chance, chance.choice([5, 8, 11]))
            deeds = self.harmless_deeds(chance, net)
            self.check_tells(first_surprise, net, deeds, result=None)
            released += len([deed for deed in deeds if deed[0] == "release"])
        self.assertGreater(released, 100)

    def harmless_deeds(self, chance, net):
        """Return deeds of which point 96 says that there is no surprise."""
        mender = Mender(net.clone())
        deeds, touched = [], set()
        for _ in range(40):
            deed = random_deed(chance, mender)
            if chance.random() < 0.1:
                deed = ("release", chance.choice(mender.net.houses()))
            if deed[0] == "release":
                house = deed[1]
                true_ring = piece_is_true(mender.net, house) and on_ring(mender.net, house)
                if not true_ring and not is_clear(mender.net, house):
                    continue
                touched.update(piece_of(mender.net, house))
            if deed[0] == "carry":
                # A letter that is home and could let its house go waits where a house was released.
                y, h, number, _, _ = mender.laps()[deed[1]]
                if y == h and number == 2 and touched & set(piece_of(mender.net, h)):
                    continue
            deeds.append(deed)
            call_of(mender, deed)
        return deeds


class NextChangesTest(NetCase):
    """Point 97."""

    def test_no_deeds_and_deeds_that_change_no_next(self):
        self.check_tells(next_changes, Net(10, {}), [], result=[])
        deeds = [("tell", 4), ("ask", 7), ("repeat", 0), ("read", 0), ("lose", 0), ("lap", 4), ("again", 0)]
        deeds += [("carry", 0), ("drop", 0)]
        self.check_tells(next_changes, Net(10, LAPPED), deeds, result=[])

    def test_new_houses(self):
        deeds = [("admit", 8, 4), ("tell", 4), ("admit", 0, 0), ("admit", 5, 0)]
        result = [(0, 8, None, 4), (2, 0, None, 0), (3, 5, None, 0)]
        self.check_tells(next_changes, Net(10, LAPPED), deeds, result=result)

    def test_answers(self):
        net = Net(10, {1: 7, 4: 7, 7: 1}, befores={7: 4}, letters=[("answer", 1, 7, 4)] * 2)
        result = [(1, 1, 7, 4)]
        self.check_tells(next_changes, net, [("ask", 1), ("read", 0), ("read", 0)], result=result)

    def test_calm_rounds(self):
        net = Net(10, {1: 1, 4: 1, 7: 1, 9: 1})
        result = [(0, 1, 1, 9), (0, 4, 1, 9), (0, 7, 1, 9), (1, 1, 9, 7), (1, 4, 9, 7), (2, 1, 7, 4)]
        self.check_tells(next_changes, net, [("calm",)] * 4, result=result)
        net = Net(10, {9: 9, 5: 9, 7: 9, 0: 9})
        result = [(1, 0, 9, 7), (1, 5, 9, 7), (1, 9, 9, 7)]
        self.check_tells(next_changes, net, [("tell", 0), ("calm",)], result=result)

    def test_letting_go(self):
        result = [(1, 4, 1, 4), (3, 1, 7, 1)]
        deeds = [("tell", 1), ("release", 4), ("release", 4), ("release", 1), ("release", 1)]
        self.check_tells(next_changes, Net(10, LAPPED), deeds, result=result)
        self.check_tells(next_changes, Net(10, LAPPED), ROUND * 3, result=[(11, 1, 7, 1)])

    def test_house_that_lets_go_while_it_is_its_own_next(self):
        deeds = [*ROUND * 2, *ROUND[:3], ("release", 1), ("carry", 0), ("calm",)]
        result = [(11, 1, 7, 1), (13, 1, 1, 4)]
        self.check_tells(next_changes, Net(10, LAPPED), deeds, result=result)

    def test_against_plain_calls(self):
        chance = random.Random(98)
        for net in mixed_nets(chance, 80):
            deeds = random_deeds(chance, net, 20, release=0.1)
            result = []
            nexts = net.nexts()
            for at, (later, _) in enumerate(steps_of(net, deeds)):
                for house in later.houses():
                    if nexts.get(house) != later.next_of(house):
                        result.append((at, house, nexts.get(house), later.next_of(house)))
                nexts = later.nexts()
            self.check_tells(next_changes, net, deeds, result=result)

    def test_longest_log(self):
        places = list(range(0, GREAT, GREAT // 40))
        net = Net(GREAT, {place: places[0] for place in places})
        found = next_changes(net, [("calm",)] * 200)
        self.assertEqual(len(found), sum(range(39)) + 39)
        self.assertEqual(found, sorted(found))
