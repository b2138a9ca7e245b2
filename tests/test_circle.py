"""Points 4 to 7: places on the circle."""

import itertools
import unittest

from ringlaps.circle import (
    between,
    covers,
    far,
    inside,
    nearest_ahead,
    nearest_behind,
    places_from,
)

GREAT = 1000000000
SMALL_SIZES = [1, 2, 3, 5, 8]


def stepped(size, start, end):
    """Return the places after start up to end, one step after the other; at least one."""
    places = [(start + 1) % size]
    while places[-1] != end:
        places.append((places[-1] + 1) % size)
    return places


def triples(size):
    return itertools.product(range(size), repeat=3)


class FarTest(unittest.TestCase):
    def test_example(self):
        self.assertEqual([far(10, 7, 2), far(10, 2, 7), far(10, 7, 7)], [5, 5, 10])

    def test_counts_single_steps(self):
        for size in SMALL_SIZES:
            for start, end in itertools.product(range(size), repeat=2):
                self.assertEqual(far(size, start, end), len(stepped(size, start, end)))

    def test_circle_of_one_place(self):
        self.assertEqual(far(1, 0, 0), 1)

    def test_greatest_circle(self):
        last = GREAT - 1
        self.assertEqual(far(GREAT, 0, 0), GREAT)
        self.assertEqual(far(GREAT, last, last), GREAT)
        self.assertEqual(far(GREAT, 0, last), last)
        self.assertEqual(far(GREAT, last, 0), 1)
        self.assertEqual(far(GREAT, 0, 1), 1)
        self.assertEqual(far(GREAT, 1, 0), last)


class BetweenTest(unittest.TestCase):
    def test_stands_on_the_way_before_its_end(self):
        for size in SMALL_SIZES:
            for start, place, end in triples(size):
                expected = place in stepped(size, start, end)[:-1] and place != start
                self.assertIs(between(size, start, place, end), expected)

    def test_neither_end_lies_between(self):
        self.assertIs(between(10, 2, 2, 6), False)
        self.assertIs(between(10, 2, 6, 6), False)
        self.assertIs(between(10, 9, 9, 0), False)
        self.assertIs(between(10, 9, 0, 0), False)

    def test_equal_ends_leave_every_other_place(self):
        found = [place for place in range(10) if between(10, 4, place, 4)]
        self.assertEqual(found, [0, 1, 2, 3, 5, 6, 7, 8, 9])

    def test_circle_of_one_place(self):
        self.assertIs(between(1, 0, 0, 0), False)

    def test_greatest_circle(self):
        last = GREAT - 1
        self.assertIs(between(GREAT, last, 0, 1), True)
        self.assertIs(between(GREAT, 0, last, 1), False)
        self.assertIs(between(GREAT, 0, last, 0), True)
        self.assertIs(between(GREAT, last, 0, 0), False)
        self.assertIs(between(GREAT, 0, 500000000, last), True)


class CoversTest(unittest.TestCase):
    def test_covers_what_it_steps_on(self):
        for size in SMALL_SIZES:
            for start, place, end in triples(size):
                expected = place in stepped(size, start, end)
                self.assertIs(covers(size, start, place, end), expected)

    def test_covers_its_end_and_not_its_start(self):
        self.assertIs(covers(10, 8, 1, 1), True)
        self.assertIs(covers(10, 8, 8, 1), False)
        self.assertIs(covers(10, 8, 8, 9), False)

    def test_whole_turn_covers_every_place(self):
        self.assertEqual([covers(6, 2, place, 2) for place in range(6)], [True] * 6)

    def test_circle_of_one_place(self):
        self.assertIs(covers(1, 0, 0, 0), True)

    def test_greatest_circle(self):
        last = GREAT - 1
        self.assertIs(covers(GREAT, last, 0, 0), True)
        self.assertIs(covers(GREAT, last, last, 0), False)
        self.assertIs(covers(GREAT, last, 1, 0), False)
        self.assertIs(covers(GREAT, last, last, last), True)


class PlacesFromTest(unittest.TestCase):
    def test_order_in_which_they_are_met(self):
        self.assertEqual(places_from(10, 5, [1, 9, 4, 6, 0]), [6, 9, 0, 1, 4])

    def test_start_comes_first_itself(self):
        self.assertEqual(places_from(10, 5, [4, 6, 5]), [5, 6, 4])
        self.assertEqual(places_from(10, 0, [9, 0, 1]), [0, 1, 9])
        self.assertEqual(places_from(10, 9, [8, 0, 9]), [9, 0, 8])

    def test_few_places(self):
        self.assertEqual(places_from(10, 3, []), [])
        self.assertEqual(places_from(10, 3, [3]), [3])
        self.assertEqual(places_from(10, 3, [2]), [2])
        self.assertEqual(places_from(1, 0, [0]), [0])

    def test_greatest_circle(self):
        last = GREAT - 1
        self.assertEqual(places_from(GREAT, last, [1, last - 1, 0, last]), [last, 0, 1, last - 1])

    def test_argument_stays_and_result_is_new(self):
        places = [6, 5]
        found = places_from(10, 5, places)
        self.assertEqual(places, [6, 5])
        ordered = [5, 6]
        places_from(10, 5, ordered).append(7)
        self.assertEqual(ordered, [5, 6])
        found.append(9)
        self.assertEqual(places_from(10, 5, places), [5, 6])


class InsideTest(unittest.TestCase):
    def test_those_between_in_the_order_in_which_they_are_met(self):
        self.assertEqual(inside(10, 7, 3, [2, 5, 9, 0, 3, 7, 8]), [8, 9, 0, 2])
        self.assertEqual(inside(10, 3, 7, [2, 5, 9, 0, 3, 7, 4]), [4, 5])

    def test_equal_ends_leave_out_only_themselves(self):
        self.assertEqual(inside(10, 7, 7, [6, 7, 8, 0]), [8, 0, 6])

    def test_nothing_lies_between(self):
        self.assertEqual(inside(10, 7, 3, []), [])
        self.assertEqual(inside(10, 7, 8, [6, 7, 8, 9]), [])
        self.assertEqual(inside(10, 7, 3, [7]), [])
        self.assertEqual(inside(10, 7, 3, [3]), [])
        self.assertEqual(inside(10, 7, 7, [7]), [])
        self.assertEqual(inside(1, 0, 0, [0]), [])

    def test_greatest_circle(self):
        last = GREAT - 1
        self.assertEqual(inside(GREAT, last, 2, [1, 2, last, 3, 0]), [0, 1])
        self.assertEqual(inside(GREAT, 0, last, [last, 0, last - 1]), [last - 1])

    def test_argument_stays_and_result_is_new(self):
        places = [9, 8]
        inside(10, 7, 3, places).append(1)
        self.assertEqual(places, [9, 8])
        self.assertEqual(inside(10, 7, 3, places), [8, 9])


class NearestTest(unittest.TestCase):
    def test_ahead(self):
        self.assertEqual(nearest_ahead(10, 7, [2, 6, 9]), 9)
        self.assertEqual(nearest_ahead(10, 9, [2, 6, 8]), 2)
        self.assertEqual(nearest_ahead(10, 9, [8, 0]), 0)

    def test_behind(self):
        self.assertEqual(nearest_behind(10, 7, [2, 6, 9]), 6)
        self.assertEqual(nearest_behind(10, 1, [2, 6, 9]), 9)
        self.assertEqual(nearest_behind(10, 0, [1, 9]), 9)

    def test_empty_list(self):
        self.assertIsNone(nearest_ahead(10, 7, []))
        self.assertIsNone(nearest_behind(10, 7, []))

    def test_the_place_itself_is_a_whole_turn_away(self):
        for nearest in (nearest_ahead, nearest_behind):
            with self.subTest(nearest=nearest.__name__):
                self.assertEqual(nearest(10, 7, [7]), 7)
                self.assertEqual(nearest(10, 0, [0]), 0)
                self.assertEqual(nearest(10, 7, [7, 6]), 6)
                self.assertEqual(nearest(10, 7, [8, 7]), 8)
                self.assertEqual(nearest(1, 0, [0]), 0)

    def test_smallest_distance_on_small_circles(self):
        for size in (1, 2, 4, 5):
            for many in range(1, size + 1):
                for places in itertools.permutations(range(size), many):
                    for place in range(size):
                        ahead = nearest_ahead(size, place, list(places))
                        behind = nearest_behind(size, place, list(places))
                        self.assertIn(ahead, places)
                        self.assertIn(behind, places)
                        for other in places:
                            self.assertLessEqual(far(size, place, ahead), far(size, place, other))
                            self.assertLessEqual(far(size, behind, place), far(size, other, place))

    def test_greatest_circle(self):
        last = GREAT - 1
        self.assertEqual(nearest_ahead(GREAT, last, [last, 1, 2]), 1)
        self.assertEqual(nearest_behind(GREAT, 0, [0, 5, last]), last)

    def test_arguments_stay(self):
        places = [9, 2, 6]
        nearest_ahead(10, 7, places)
        nearest_behind(10, 7, places)
        self.assertEqual(places, [9, 2, 6])


if __name__ == "__main__":
    unittest.main()
