"""Points 11 to 14: ring orders."""

import itertools
import math
import random
import unittest

from ringlaps.errors import NoOrder
from ringlaps.orders import (
    count_orders,
    descents,
    from_least,
    nth_order,
    order_index,
    order_nexts,
    order_turns,
)

FORTY = [3 * k + 2 for k in range(40)]


def listed_orders(places, turns):
    """Return all orders of the places with so many turns, in ascending order, one by one."""
    least, *rest = sorted(places)
    rows = [[least, *tail] for tail in itertools.permutations(rest)]
    return [row for row in rows if order_turns(max(places) + 1, row) == turns]


def written_out_count(count, turns):
    """Return the number of orders by an alternating sum, without smaller counts."""
    most = count - 1
    terms = [(-1) ** k * math.comb(most + 1, k) * (turns - k) ** most for k in range(turns)]
    return sum(terms)


def rotations(order):
    return [order[at:] + order[:at] for at in range(len(order))]


class OrderTest(unittest.TestCase):
    def test_from_least(self):
        self.assertEqual(from_least([7, 4, 9, 1, 8]), [1, 8, 7, 4, 9])
        self.assertEqual(from_least([1, 8]), [1, 8])
        self.assertEqual(from_least([8, 1]), [1, 8])
        self.assertEqual(from_least([5]), [5])
        self.assertEqual(from_least([0, 3, 2]), [0, 3, 2])

    def test_order_nexts(self):
        self.assertEqual(order_nexts([7, 4, 9]), {4: 9, 7: 4, 9: 7})
        self.assertEqual(order_nexts([5]), {5: 5})
        self.assertEqual(order_nexts([5, 2]), {2: 5, 5: 2})

    def test_order_nexts_come_with_ascending_keys(self):
        self.assertEqual(list(order_nexts([7, 4, 9, 0, 5])), [0, 4, 5, 7, 9])

    def test_order_turns(self):
        self.assertEqual(order_turns(10, [1, 9, 7, 4]), 3)
        self.assertEqual(order_turns(10, [5]), 1)
        self.assertEqual(order_turns(1, [0]), 1)
        self.assertEqual(order_turns(10, [5, 2]), 1)
        self.assertEqual(order_turns(10, [2, 5]), 1)
        self.assertEqual(order_turns(41, list(range(40))), 1)
        self.assertEqual(order_turns(41, list(range(40))[::-1]), 39)
        self.assertEqual(order_turns(1000000000, [0, 999999999, 999999998]), 2)

    def test_turns_do_not_depend_on_the_beginning(self):
        for row in rotations([1, 9, 7, 4]):
            self.assertEqual(order_turns(10, row), 3)
            self.assertEqual(from_least(row), [1, 9, 7, 4])
            self.assertEqual(order_nexts(row), {1: 9, 4: 1, 7: 4, 9: 7})

    def test_arguments_stay_and_results_are_new(self):
        order = [4, 1, 7]
        from_least(order).append(9)
        order_nexts(order)[4] = 9
        order_turns(10, order)
        self.assertEqual(order, [4, 1, 7])
        least_first = [1, 4]
        from_least(least_first).append(9)
        self.assertEqual(least_first, [1, 4])


class DescentsTest(unittest.TestCase):
    def test_short_rows(self):
        self.assertEqual(descents([]), 0)
        self.assertEqual(descents([7]), 0)

    def test_rows(self):
        self.assertEqual(descents([1, 2, 3]), 0)
        self.assertEqual(descents([3, 2, 1]), 2)
        self.assertEqual(descents([2, 5, 4, 4, 1, 6]), 2)

    def test_equal_and_negative_items(self):
        self.assertEqual(descents([4, 4, 4]), 0)
        self.assertEqual(descents([-1, -2, -2, -3, 0]), 2)
        self.assertEqual(descents([-5, 5, -5]), 1)
        self.assertEqual(descents([0, -1]), 1)

    def test_longest_row(self):
        self.assertEqual(descents([1, 0] * 200), 200)

    def test_argument_stays(self):
        row = [3, 1, 2]
        descents(row)
        self.assertEqual(row, [3, 1, 2])

    def test_turns_are_one_more_than_descents(self):
        for many in range(1, 6):
            for order in itertools.permutations([0, 2, 3, 8, 9][:many]):
                expected = descents(from_least(list(order))) + 1
                for size in (10, 11, 1000000000):
                    self.assertEqual(order_turns(size, list(order)), expected)


class CountTest(unittest.TestCase):
    def test_example(self):
        self.assertEqual(count_orders(4, 2), 4)

    def test_no_place_one_place_and_two(self):
        for count, expected in ((0, [0, 0, 0, 0]), (1, [0, 1, 0, 0]), (2, [0, 1, 0, 0])):
            with self.subTest(count=count):
                self.assertEqual([count_orders(count, turns) for turns in range(4)], expected)

    def test_turns_out_of_range(self):
        for count in (0, 1, 2, 3, 7, 40):
            for turns in (-(10**30), -41, -1, 0, count + 1, count + 2, 41, 10**30):
                with self.subTest(count=count, turns=turns):
                    self.assertEqual(count_orders(count, turns), 0)

    def test_ends_of_the_range(self):
        for count in (2, 3, 7, 40):
            with self.subTest(count=count):
                self.assertEqual(count_orders(count, 1), 1)
                self.assertEqual(count_orders(count, count - 1), 1)
                self.assertEqual(count_orders(count, count), 0)

    def test_counts_what_can_be_listed(self):
        for count in range(1, 8):
            for turns in range(0, count + 2):
                expected = len(listed_orders(list(range(count)), turns))
                self.assertEqual(count_orders(count, turns), expected)

    def test_sum_over_all_turns(self):
        for count in range(1, 41):
            total = sum(count_orders(count, turns) for turns in range(-1, count + 2))
            self.assertEqual(total, math.factorial(count - 1))

    def test_forty_places(self):
        for turns in range(1, 40):
            self.assertEqual(count_orders(40, turns), written_out_count(40, turns))


class NthOrderTest(unittest.TestCase):
    def test_example(self):
        found = [nth_order([1, 4, 7, 9], 2, index) for index in range(4)]
        self.assertEqual(found, [[1, 4, 9, 7], [1, 7, 4, 9], [1, 7, 9, 4], [1, 9, 4, 7]])

    def test_all_orders_of_few_places(self):
        for places in ([6], [6, 2], [6, 2, 8], [5, 0, 9, 3], [1, 4, 7, 9, 3], [8, 3, 4, 0, 9, 6, 5]):
            for turns in range(1, len(places) + 1):
                listed = listed_orders(places, turns)
                self.assertEqual(len(listed), count_orders(len(places), turns))
                found = [nth_order(places, turns, index) for index in range(len(listed))]
                self.assertEqual(found, listed)
                self.assertEqual([order_index(row) for row in listed], list(range(len(listed))))

    def test_places_in_any_order(self):
        for places in itertools.permutations([1, 4, 7, 9]):
            self.assertEqual(nth_order(list(places), 2, 2), [1, 7, 9, 4])

    def test_one_place(self):
        self.assertEqual(nth_order([5], 1, 0), [5])
        self.assertEqual(order_index([5]), 0)

    def check_no_order(self, places, turns, index):
        with self.subTest(places=places, turns=turns, index=index):
            with self.assertRaises(NoOrder) as caught:
                nth_order(places, turns, index)
            self.assertEqual(caught.exception.turns, turns)
            self.assertEqual(caught.exception.index, index)

    def test_no_order(self):
        self.check_no_order([1, 4, 7, 9], 2, -1)
        self.check_no_order([1, 4, 7, 9], 2, 4)
        self.check_no_order([1, 4, 7, 9], 1, 1)
        self.check_no_order([1, 4, 7, 9], 0, 0)
        self.check_no_order([1, 4, 7, 9], 4, 0)
        self.check_no_order([1, 4, 7, 9], -1, 0)
        self.check_no_order([1, 4, 7, 9], 10**30, 0)
        self.check_no_order([5], 1, 1)
        self.check_no_order([5], 1, -1)
        self.check_no_order([5], 2, 0)
        self.check_no_order([5], 0, 0)
        self.check_no_order(FORTY, 20, count_orders(40, 20))

    def test_no_places(self):
        for turns in (-1, 0, 1, 2):
            for index in (-1, 0, 1):
                self.check_no_order([], turns, index)

    def test_order_may_begin_anywhere(self):
        for row in rotations([1, 7, 9, 4]):
            self.assertEqual(order_index(row), 2)

    def test_forty_places(self):
        chance = random.Random(14)
        for turns in (1, 2, 3, 19, 20, 21, 38, 39):
            most = count_orders(40, turns)
            indexes = {0, most - 1, most // 2, *[chance.randrange(most) for _ in range(3)]}
            rows = []
            for index in sorted(indexes):
                row = nth_order(FORTY[::-1], turns, index)
                self.assertEqual(sorted(row), FORTY)
                self.assertEqual(row[0], min(FORTY))
                self.assertEqual(order_turns(1000, row), turns)
                self.assertEqual(order_index(row), index)
                self.assertEqual(order_index(row[17:] + row[:17]), index)
                rows.append(row)
            self.assertEqual(rows, sorted(rows))

    def test_first_and_last_orders_of_forty_places(self):
        self.assertEqual(nth_order(FORTY, 1, 0), FORTY)
        self.assertEqual(nth_order(FORTY, 39, 0), [FORTY[0], *FORTY[:0:-1]])
        self.assertEqual(nth_order(FORTY, 2, 0), [*FORTY[:-2], FORTY[-1], FORTY[-2]])
        last = count_orders(40, 2) - 1
        self.assertEqual(nth_order(FORTY, 2, last), [FORTY[0], FORTY[-1], *FORTY[1:-1]])

    def test_random_orders_of_forty_places(self):
        chance = random.Random(41)
        for _ in range(5):
            row = chance.sample(FORTY, 40)
            found = nth_order(FORTY, order_turns(1000, row), order_index(row))
            self.assertEqual(found, from_least(row))

    def test_arguments_stay_and_results_are_new(self):
        places = [9, 1, 7, 4]
        nth_order(places, 2, 3).append(5)
        order_index(places)
        self.assertEqual(places, [9, 1, 7, 4])
        self.assertEqual(nth_order(places, 2, 3), [1, 9, 4, 7])


if __name__ == "__main__":
    unittest.main()
