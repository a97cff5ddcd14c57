"""Points 45 to 47: orders in which the posts can be held."""

import unittest
from itertools import permutations
from math import factorial

from movingup.arrangements import check_arrangement
from movingup.charts import check_chart
from movingup.errors import IndexTooLarge, InvalidArrangement, InvalidChart, InvalidOrder
from movingup.orders import check_order, count_orders, order_at, order_index, order_of
from oracle import (
    ARRANGEMENT, BAD_CHARTS, CHART, HALF_EMPTY, NOT_ARRANGEMENTS, NOT_PEOPLE, NOT_WHOLE,
    all_charts, climb, people_of, random_arrangement, random_chart, small_cases)

FORTY_LINE = (None,) + tuple(range(39))
FORTY_STAR = (None,) + (0,) * 39


def is_order(chart, posts):
    return all(k == 0 or posts.index(k) > posts.index(chart[k]) for k in range(len(chart)))


def found_orders(chart):
    return [list(posts) for posts in permutations(range(len(chart))) if is_order(chart, posts)]


def charts():
    for count in (1, 2, 3, 4, 5):
        yield from all_charts(count)
    yield from (CHART, (None, 0, 1, 0, 3, 1), (None, 0, 0, 1, 2, 0))


class CheckOrder(unittest.TestCase):
    def test_all_lists_of_small_charts(self):
        for chart in charts():
            for posts in permutations(range(len(chart))):
                self.assertEqual(check_order(chart, list(posts)) is None, is_order(chart, posts))

    def test_shape(self):
        for value in (None, True, 6, "012345", (0, 1, 2, 3, 4, 5), {}, dict.fromkeys(range(6)), [], [0, 1, 2, 3, 4],
                      [0, 1, 2, 3, 4, 5, 5], [[0, 1, 2, 3, 4, 5]]):
            self.assertEqual(check_order(CHART, value), ("shape",))
        self.assertEqual(check_order((None,), []), ("shape",))

    def test_first_wrong_post(self):
        for post in (*NOT_WHOLE, -1, 6, 10 ** 899, 0, 2, 3):
            self.assertEqual(check_order(CHART, [0, 2, post, None, 1, 1]), ("post", 2))
        for post in (*NOT_WHOLE, -1, 1, 2, 5):
            self.assertEqual(check_order(CHART, [post, 0, 1, 2, 3, 4]), ("post", 0))
        self.assertEqual(check_order(CHART, [0, 1, 3, 4, 5, 2]), ("post", 4))
        self.assertEqual(check_order(CHART, [0, 1, 3, 4, 2, 4]), ("post", 5))
        self.assertEqual(check_order((None,), [None]), ("post", 0))

    def test_large(self):
        for seed in range(3):
            chart = random_chart(seed, 1000)
            row = random_arrangement(seed, chart)
            order = [row.index(person) for person in people_of(row)]
            self.assertIsNone(check_order(chart, order))
            self.assertEqual(check_order(chart, order[:-1] + [0]), ("post", 999))
        line = (None,) + tuple(range(999))
        self.assertIsNone(check_order(line, list(range(1000))))
        self.assertEqual(check_order(line, list(range(998)) + [999, 998]), ("post", 998))
        self.assertEqual(check_order(CHART, [[]] * 200000), ("shape",))

    def test_wrong_chart(self):
        for chart in BAD_CHARTS:
            with self.assertRaises(InvalidChart) as caught:
                check_order(chart, None)
            self.assertEqual(caught.exception.reason, check_chart(chart))


class Orders(unittest.TestCase):
    def test_document(self):
        self.assertEqual([count_orders(CHART), order_at(CHART, 0)], [20, [0, 1, 2, 3, 4, 5]])
        self.assertEqual(order_of(CHART, ARRANGEMENT), [0, 1, 4, 2, 3, 5])
        self.assertEqual(order_index(CHART, [0, 1, 4, 2, 3, 5]), 9)

    def test_all_orders_of_small_charts(self):
        for chart in charts():
            found = found_orders(chart)
            self.assertEqual(count_orders(chart), len(found))
            for index, order in enumerate(found):
                self.assertEqual(order_at(chart, index), order)
                self.assertEqual(order_index(chart, order), index)
            with self.assertRaises(IndexTooLarge) as caught:
                order_at(chart, len(found))
            self.assertEqual(caught.exception.count, len(found))

    def test_one_post(self):
        self.assertEqual([count_orders((None,)), order_at((None,), 0), order_index((None,), [0])], [1, [0], 0])

    def test_limits(self):
        self.assertEqual(count_orders(FORTY_LINE), 1)
        self.assertEqual(order_at(FORTY_LINE, 0), list(range(40)))
        self.assertEqual(count_orders(FORTY_STAR), factorial(39))
        self.assertEqual(order_at(FORTY_STAR, factorial(39) - 1), [0] + list(range(39, 0, -1)))
        for seed in range(20):
            chart = random_chart(seed, 40)
            divisor = 1
            for post in range(40):
                divisor *= len([k for k in range(40) if post in climb(chart, k)])
            count = factorial(40) // divisor
            self.assertEqual(count_orders(chart), count)
            orders = []
            for index in (0, 1, count // 7, count // 2, count - 2, count - 1):
                orders.append(order_at(chart, index))
                self.assertTrue(is_order(chart, orders[-1]))
                self.assertEqual(order_index(chart, orders[-1]), index)
            self.assertEqual(orders, sorted(orders))

    def test_results_are_new(self):
        order = order_at(CHART, 3)
        order_index(CHART, order)
        self.assertEqual(order, order_at(CHART, 3))
        order.append(9)
        self.assertNotEqual(order, order_at(CHART, 3))

    def test_wrong_chart(self):
        for chart in BAD_CHARTS:
            for call in (lambda: count_orders(chart), lambda: order_at(chart, None), lambda: order_index(chart, None),
                         lambda: order_at(chart, 0), lambda: order_index(chart, [0])):
                with self.assertRaises(InvalidChart) as caught:
                    call()
                self.assertEqual(caught.exception.reason, check_chart(chart))

    def test_wrong_index(self):
        for index in (*NOT_PEOPLE, 20, 21, 10 ** 899):
            with self.assertRaises(IndexTooLarge) as caught:
                order_at(CHART, index)
            self.assertEqual(caught.exception.count, 20)

    def test_wrong_order(self):
        for order in (None, (0, 1, 2, 3, 4, 5), [], [0, 1, 2, 3, 4, 4], [1, 0, 2, 3, 4, 5], [0, 3, 1, 2, 4, 5], [[]] * 6):
            with self.assertRaises(InvalidOrder) as caught:
                order_index(CHART, order)
            self.assertEqual(caught.exception.reason, check_order(CHART, order))

    def test_by_name(self):
        self.assertIsNone(check_order(chart=CHART, value=[0, 1, 2, 3, 4, 5]))
        self.assertEqual(count_orders(chart=CHART), 20)
        self.assertEqual(order_at(chart=CHART, index=9), [0, 1, 4, 2, 3, 5])
        self.assertEqual(order_index(chart=CHART, order=[0, 1, 4, 2, 3, 5]), 9)
        self.assertEqual(order_of(chart=CHART, arrangement=HALF_EMPTY), [0, 2, 1, 5])


class OrderOf(unittest.TestCase):
    def test_empty_and_full(self):
        self.assertEqual(order_of(CHART, (None,) * 6), [])
        self.assertEqual(order_of((None,), (0,)), [0])
        self.assertEqual(order_of((None,), (None,)), [])
        self.assertEqual(order_of(CHART, HALF_EMPTY), [0, 2, 1, 5])

    def test_small_cases(self):
        for chart, row in small_cases():
            posts = order_of(chart, row)
            self.assertEqual([row[post] for post in posts], people_of(row))
            if None not in row:
                self.assertIsNone(check_order(chart, posts))

    def test_limits(self):
        for seed in range(10):
            chart = random_chart(seed, 40)
            row = random_arrangement(seed, chart)
            self.assertIsNone(check_order(chart, order_of(chart, row)))
            self.assertEqual([row[post] for post in order_of(chart, row)], people_of(row))

    def test_errors(self):
        for chart in BAD_CHARTS:
            for row in (ARRANGEMENT, None):
                with self.assertRaises(InvalidChart) as caught:
                    order_of(chart, row)
                self.assertEqual(caught.exception.reason, check_chart(chart))
        for row in (*NOT_ARRANGEMENTS, (2, 1, 4, 5, 3, 6)):
            with self.assertRaises(InvalidArrangement) as caught:
                order_of(CHART, row)
            self.assertEqual(caught.exception.reason, check_arrangement(CHART, row))


if __name__ == "__main__":
    unittest.main()
