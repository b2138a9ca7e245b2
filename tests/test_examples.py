"""The examples of the document, each of which is run by itself."""

import doctest
import unittest

# Each example with the point behind which it stands.
EXAMPLES = {
    4: r"""
>>> from ringlaps.circle import far
>>> [far(10, 7, 2), far(10, 2, 7), far(10, 7, 7)]
[5, 5, 10]
""",
    14: r"""
>>> from ringlaps.orders import count_orders, nth_order, order_turns
>>> count_orders(4, 2)
4
>>> [nth_order([1, 4, 7, 9], 2, 0), nth_order([1, 4, 7, 9], 2, 1), nth_order([1, 4, 7, 9], 2, 2), nth_order([1, 4, 7, 9], 2, 3)]
[[1, 4, 9, 7], [1, 7, 4, 9], [1, 7, 9, 4], [1, 9, 4, 7]]
>>> order_turns(10, [1, 9, 7, 4])
3
""",
    26: r"""
>>> from ringlaps.net import Net
>>> from ringlaps.nettext import format_net
>>> net = Net(10, {1: 7, 7: 1})
>>> net.tell(7)
('tell', 1, 7)
>>> net.read(0)
('before', 1, 7)
>>> format_net(net).split("\n")
['circle 10', 'house 1 next 7 before 7', 'house 7 next 1']
""",
    39: r"""
>>> from ringlaps.net import Net
>>> from ringlaps.pieces import turns_of
>>> from ringlaps.marks import marks_of, mark_row
>>> net = Net(10, {1: 7, 4: 1, 7: 4, 8: 4})
>>> turns_of(net, 8)
2
>>> marks_of(net, 8)
{1: 1, 4: 14, 7: 7, 8: 8}
>>> mark_row(net, 8)
[1, 7, 8, 4]
""",
    42: r"""
>>> from ringlaps.net import Net
>>> from ringlaps.calm import calm_round, settle
>>> net = Net(10, {1: 1, 4: 1, 7: 4})
>>> calm_round(net)
1
>>> net.nexts()
{1: 4, 4: 1, 7: 4}
>>> settle(net)
2
>>> net.nexts()
{1: 4, 4: 7, 7: 1}
""",
    47: r"""
>>> from ringlaps.net import Net
>>> from ringlaps.ends import change_bounds, ends_plain, loss, rooms, told_end
>>> net = Net(10, {1: 7, 4: 1, 7: 4, 8: 4})
>>> told_end(net)
{1: 7, 4: 1, 7: 8, 8: 4}
>>> [rooms(net), change_bounds(net), loss(net), ends_plain(net)]
[{1: 0, 4: 0, 7: 1, 8: 0}, (1, 1), 6, False]
""",
    50: r"""
>>> from ringlaps.net import Net
>>> from ringlaps.logs import first_unfaithful, is_faithful
>>> net = Net(10, {1: 7, 4: 1, 7: 4, 8: 4})
>>> [is_faithful(net, 7, 8), is_faithful(net, 7, 1), is_faithful(net, 4, 7)]
[True, False, False]
>>> first_unfaithful(net, [(7, 8), (8, 1)])
1
""",
    59: r"""
>>> from ringlaps.net import Net
>>> from ringlaps.calm import settle
>>> from ringlaps.clear import clear_fault, distances_to
>>> from ringlaps.cures import heal
>>> net = Net(10, {1: 7, 4: 1, 7: 4}, befores={4: 7}, letters=[("answer", 7, 4, 7)])
>>> [clear_fault(net, 7), heal(net), clear_fault(net, 7), clear_fault(net, 1)]
[('turns', 2), [1], ('off ring', 7), None]
>>> distances_to(net, 1)
{1: 0, 4: 7, 7: 14}
>>> settle(net)
3
>>> net.nexts()
{1: 4, 4: 7, 7: 1}
""",
    60: r"""
>>> from ringlaps.net import Net
>>> from ringlaps.cures import healing_targets
>>> net = Net(10, {1: 7, 4: 1, 7: 4, 8: 4})
>>> [healing_targets(net, 1), healing_targets(net, 8)]
[[1, 4], []]
""",
    75: r"""
>>> from ringlaps.net import Net
>>> from ringlaps.mender import Mender
>>> net = Net(10, {1: 7, 4: 1, 7: 4})
>>> mender = Mender(net)
>>> mender.write_lap(4)
(1, 4, 0, 7, None)
>>> [mender.carry(0), mender.laps()]
[('handed', 1, 7), [(7, 4, 0, 13, 1)]]
>>> [mender.carry(0), mender.carry(0), mender.memory(4)]
[('handed', 7, 4), ('home', 4, 1), (1, 0, None, False)]
>>> [mender.mend(), mender.memory(1), net.nexts()]
[[1], (3, 20, 4, True), {1: 4, 4: 7, 7: 1}]
""",
    79: r"""
>>> from ringlaps.net import Net
>>> from ringlaps.lookups import answer, ring_answers, told_answer
>>> net = Net(10, {1: 7, 4: 1, 7: 4, 8: 4})
>>> [answer(net, 1, 2), answer(net, 7, 2), answer(net, 7, 8), told_answer(net, 7, 8)]
[(7, 6), (4, 7), (4, 7), (8, 1)]
>>> ring_answers(net, 8, 2)
[4, 7]
""",
    87: r"""
>>> from ringlaps.net import Net
>>> from ringlaps.falls import fall, gaps
>>> net = Net(20, {1: 4, 4: 9, 9: 12, 12: 15, 15: 1})
>>> [fall(net, [4], ahead=2).nexts(), gaps(net, [4], ahead=2)]
[{1: 9, 9: 12, 12: 15, 15: 1}, 0]
>>> [fall(net, [4, 9], ahead=2).nexts(), gaps(net, [4, 9], ahead=2)]
[{1: 1, 12: 15, 15: 1}, 1]
""",
    97: r"""
>>> from ringlaps.net import Net
>>> from ringlaps.audit import audit, first_surprise
>>> net = Net(10, {1: 7, 4: 1, 7: 4})
>>> audit(net, [("admit", 8, 4), ("release", 4), ("calm",)])
[[(2, (1, 7, 4))], [(2, (1, 7, 8, 4))], [(1, (1, 4, 7, 8))], [(1, (1, 4, 7, 8))]]
>>> first_surprise(net, [("release", 4), ("calm",), ("release", 1)])
2
""",
}


class ExamplesTest(unittest.TestCase):
    def test_examples(self):
        for point, text in EXAMPLES.items():
            with self.subTest(point=point):
                test = doctest.DocTestParser().get_doctest(text, {}, f"point {point}", None, 0)
                told = []
                results = doctest.DocTestRunner(verbose=False).run(test, out=told.append)
                self.assertGreater(results.attempted, 1)
                self.assertEqual(results.failed, 0, "".join(told))


if __name__ == "__main__":
    unittest.main()
