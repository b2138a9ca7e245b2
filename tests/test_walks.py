"""Points 8 to 10: walks."""

import random
import unittest

from ringlaps.errors import OpenWalk, WalksApart
from ringlaps.walks import Walk

GREAT = 1000000000


def covered(walk):
    """Return the places that the walk steps on, one by one, each as often as it does."""
    found = []
    for start, end in zip(walk.places, walk.places[1:]):
        place = (start + 1) % walk.size
        found.append(place)
        while place != end:
            place = (place + 1) % walk.size
            found.append(place)
    return found


def some_walks():
    """Return walks of all lengths up to eight on small circles, always the same ones."""
    chance = random.Random(8)
    walks = []
    for size in (1, 2, 3, 7):
        for many in range(1, 9):
            for _ in range(6):
                walks.append(Walk(size, [chance.randrange(size) for _ in range(many)]))
    return walks


class WalkTest(unittest.TestCase):
    def test_attributes(self):
        self.assertEqual(Walk(10, [3, 4]).size, 10)
        self.assertEqual(Walk(10, [3, 4]).places, (3, 4))
        self.assertEqual(Walk(10, (3, 4)).places, (3, 4))
        self.assertIs(type(Walk(10, [3, 4]).places), tuple)
        self.assertIs(type(Walk(10, (3, 4)).places), tuple)

    def test_places_are_copied(self):
        places = [3, 4]
        walk = Walk(10, places)
        places.append(9)
        places[0] = 7
        self.assertEqual(walk.places, (3, 4))
        self.assertEqual(walk.total(), 1)
        self.assertEqual(places, [7, 4, 9])

    def test_total(self):
        self.assertEqual(Walk(10, [7, 2, 5]).total(), 8)
        self.assertEqual(Walk(10, [7, 2, 7]).total(), 10)
        self.assertEqual(Walk(10, [2, 1, 0]).total(), 18)

    def test_one_place(self):
        walk = Walk(10, [4])
        self.assertEqual(walk.total(), 0)
        self.assertEqual([walk.crossings(place) for place in range(10)], [0] * 10)
        self.assertIs(walk.is_closed(), True)
        self.assertEqual(walk.turns(), 0)
        self.assertEqual(walk.backwards().places, (4,))

    def test_equal_neighbours_are_a_whole_turn(self):
        walk = Walk(10, [4, 4])
        self.assertEqual(walk.total(), 10)
        self.assertEqual([walk.crossings(place) for place in range(10)], [1] * 10)
        self.assertEqual(walk.turns(), 1)
        self.assertEqual(Walk(10, [4, 4, 4, 5]).total(), 21)
        self.assertEqual(Walk(1, [0, 0, 0]).turns(), 2)

    def test_crossings(self):
        walk = Walk(10, [2, 5, 4])
        expected = [1, 1, 1, 2, 2, 1, 1, 1, 1, 1]
        self.assertEqual([walk.crossings(place) for place in range(10)], expected)
        self.assertEqual([Walk(10, [8, 1]).crossings(k) for k in (7, 8, 9, 0, 1, 2)], [0, 0, 1, 1, 1, 0])

    def test_total_and_crossings_step_by_step(self):
        for walk in some_walks():
            found = covered(walk)
            self.assertEqual(walk.total(), len(found))
            for place in range(walk.size):
                self.assertEqual(walk.crossings(place), found.count(place))

    def test_greatest_circle_and_longest_walk(self):
        walk = Walk(GREAT, [0, GREAT - 1] * 200)
        self.assertEqual(walk.total(), 200 * (GREAT - 1) + 199)
        self.assertEqual(walk.crossings(0), 199)
        self.assertEqual(walk.crossings(GREAT - 1), 200)
        self.assertEqual(Walk(GREAT, [5] * 400).turns(), 399)


class ClosedTest(unittest.TestCase):
    def test_is_closed(self):
        self.assertIs(Walk(10, [2, 5, 2]).is_closed(), True)
        self.assertIs(Walk(10, [2, 5, 3]).is_closed(), False)
        self.assertIs(Walk(10, [2, 2, 3]).is_closed(), False)

    def test_turns(self):
        self.assertEqual(Walk(10, [2, 5, 2]).turns(), 1)
        self.assertEqual(Walk(10, [1, 9, 7, 4, 1]).turns(), 3)
        self.assertIs(type(Walk(10, [2, 5, 2]).turns()), int)

    def test_turns_of_an_open_walk(self):
        for places, first, last in (([2, 5, 3], 2, 3), ([0, 1], 0, 1), ([9, 9, 0], 9, 0)):
            with self.subTest(places=places), self.assertRaises(OpenWalk) as caught:
                Walk(10, places).turns()
            self.assertEqual(caught.exception.first, first)
            self.assertEqual(caught.exception.last, last)

    def test_every_place_is_crossed_as_often_as_there_are_turns(self):
        for walk in some_walks():
            closed = Walk(walk.size, [*walk.places, walk.places[0]])
            self.assertEqual(closed.turns() * closed.size, closed.total())
            for place in range(closed.size):
                self.assertEqual(closed.crossings(place), closed.turns())


class JoinedTest(unittest.TestCase):
    def test_goes_on_with_the_other(self):
        joined = Walk(10, [1, 4]) + Walk(10, [4, 9, 2])
        self.assertIsInstance(joined, Walk)
        self.assertEqual(joined.size, 10)
        self.assertEqual(joined.places, (1, 4, 9, 2))

    def test_walks_of_one_place(self):
        self.assertEqual((Walk(10, [4]) + Walk(10, [4])).places, (4,))
        self.assertEqual((Walk(10, [4]) + Walk(10, [4, 4])).places, (4, 4))
        self.assertEqual((Walk(10, [1, 4]) + Walk(10, [4])).places, (1, 4))

    def test_both_operands_stay(self):
        first = Walk(10, [1, 4])
        second = Walk(10, (4, 9))
        joined = first + second
        self.assertEqual(first.places, (1, 4))
        self.assertEqual(second.places, (4, 9))
        self.assertIsNot(joined, first)
        self.assertIsNot(joined, second)
        first += second
        self.assertEqual(second.places, (4, 9))
        self.assertEqual(first.places, (1, 4, 9))

    def test_totals_add_up(self):
        first = Walk(10, [1, 4, 4])
        second = Walk(10, [4, 9, 2])
        self.assertEqual((first + second).total(), first.total() + second.total())

    def test_walks_apart(self):
        first = Walk(10, [1, 4])
        second = Walk(10, [5, 1])
        with self.assertRaises(WalksApart) as caught:
            first + second
        self.assertEqual(caught.exception.end, 4)
        self.assertEqual(caught.exception.start, 5)
        self.assertEqual(first.places, (1, 4))
        self.assertEqual(second.places, (5, 1))
        self.assertEqual((second + first).places, (5, 1, 4))


class RowTest(unittest.TestCase):
    def test_contains(self):
        walk = Walk(10, [7, 2, 0])
        self.assertEqual([place in walk for place in range(10)], [k in (7, 2, 0) for k in range(10)])
        self.assertIs(2 in walk, True)
        self.assertIs(3 in walk, False)

    def test_iterates_over_its_places_in_order(self):
        walk = Walk(10, [7, 2, 2, 7])
        self.assertEqual(list(walk), [7, 2, 2, 7])
        self.assertEqual([place for place in walk], [7, 2, 2, 7])
        self.assertEqual(list(walk), [7, 2, 2, 7])

    def test_backwards(self):
        walk = Walk(10, [7, 2, 5])
        back = walk.backwards()
        self.assertIsInstance(back, Walk)
        self.assertEqual((back.size, back.places), (10, (5, 2, 7)))
        self.assertEqual(walk.places, (7, 2, 5))
        self.assertEqual(back.total(), 12)


if __name__ == "__main__":
    unittest.main()
