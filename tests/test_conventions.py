"""Points 2 and 3: what holds for all functions, and the limits."""

import unittest
from copy import deepcopy

from movingup.arrangements import chain, check_arrangement, join, leave, open_posts, post_of, reduced
from movingup.charts import check_chart, common_post, path_to, posts_below
from movingup.errors import InvalidPeople, MovingUpError
from movingup.standing import career, count_moves, moves_range, post_after
from oracle import ARRANGEMENT, CHART, HALF_EMPTY, people_of, random_arrangement, random_chart

CALLS = (
    (check_chart, [CHART]),
    (path_to, [CHART, 4]),
    (posts_below, [CHART, 1]),
    (common_post, [CHART, 4, 5]),
    (check_arrangement, [CHART, ARRANGEMENT]),
    (post_of, [CHART, ARRANGEMENT, 3]),
    (open_posts, [CHART, HALF_EMPTY]),
    (leave, [CHART, ARRANGEMENT, 1, 2]),
    (chain, [CHART, ARRANGEMENT, 1]),
    (join, [CHART, HALF_EMPTY, 1, 3]),
    (reduced, [CHART, ARRANGEMENT, [6, 3, 5]]),
    (post_after, [CHART, ARRANGEMENT, [2, 1], 3]),
    (career, [CHART, ARRANGEMENT, [2, 1], 3]),
    (count_moves, [CHART, ARRANGEMENT, [2, 1]]),
    (moves_range, [CHART, ARRANGEMENT, [2, 1]]),
)


def nested(depth):
    value = None
    for k in range(depth):
        value = ([value], (value,), {k: value})[k % 3]
    return value


def outcome(ask, arguments):
    """What a call returns or raises, in a form that can be compared."""
    try:
        result = ask(*arguments)
        return list(result) if ask is chain else result
    except MovingUpError as error:
        return (error.__class__, vars(error))


class AllFunctions(unittest.TestCase):
    def test_arguments_are_never_modified(self):
        for ask, arguments in CALLS:
            before = deepcopy(arguments)
            outcome(ask, arguments)
            self.assertEqual(arguments, before)
            for k in range(len(arguments)):
                wrong = arguments[:k] + [[None, {}, [3, 1, 3]]] + arguments[k + 1:]
                before = deepcopy(wrong)
                outcome(ask, wrong)
                self.assertEqual(wrong, before)

    def test_equal_calls_have_equal_results(self):
        for ask, arguments in CALLS:
            self.assertEqual(outcome(ask, arguments), outcome(ask, deepcopy(arguments)))

    def test_lists_are_new_each_time(self):
        for ask, arguments in CALLS:
            first = outcome(ask, arguments)
            if isinstance(first, list):
                self.assertIsNot(first, outcome(ask, arguments))

    def test_a_bool_is_no_whole_number(self):
        self.assertEqual(check_chart((None, False)), ("post", 1))
        self.assertEqual(check_arrangement((None, 0), (True, 2)), ("person", 0))
        self.assertEqual(check_arrangement((None, 0), (1, True)), ("person", 1))
        for ask, arguments in CALLS:
            for k in range(1, len(arguments)):
                if isinstance(arguments[k], int):
                    for value in (True, False):
                        wrong = arguments[:k] + [value] + arguments[k + 1:]
                        with self.assertRaises(MovingUpError):
                            list(ask(*wrong)) if ask is chain else ask(*wrong)

    def test_any_value_at_any_place(self):
        values = (10 ** 900 - 1, "x" * 10000, nested(10), [[]] * 200000, tuple(range(200000)), dict.fromkeys(range(9)))
        for ask, arguments in CALLS:
            if ask in (check_chart, check_arrangement):
                continue
            for value in values:
                for k in range(len(arguments)):
                    wrong = arguments[:k] + [value] + arguments[k + 1:]
                    if ask is post_of and k == 2 and value == values[0]:
                        self.assertIsNone(ask(*wrong))
                    elif ask is join and k == 2 and value == values[0]:
                        self.assertIn(value, ask(*wrong))
                    else:
                        with self.assertRaises(MovingUpError):
                            list(ask(*wrong)) if ask is chain else ask(*wrong)

    def test_a_failed_call_changes_nothing(self):
        leavers = [1, 2, 2]
        with self.assertRaises(InvalidPeople):
            career(CHART, ARRANGEMENT, leavers, 3)
        self.assertEqual(leavers, [1, 2, 2])
        self.assertEqual(career(CHART, ARRANGEMENT, [1, 2], 3), [4, 1, 0])


class Limits(unittest.TestCase):
    def test_forty_posts(self):
        for seed in range(10):
            chart = random_chart(seed, 40)
            row = random_arrangement(seed, chart)
            people = people_of(row)
            self.assertEqual(posts_below(chart, 0), list(range(40)))
            self.assertEqual(open_posts(chart, row), [])
            self.assertEqual(leave(chart, row, *people), (None,) * 40)
            self.assertEqual(reduced(chart, row, people[::-1]), row)
            self.assertEqual(career(chart, row, people[:39], people[39])[-1], 0)
            least, greatest = moves_range(chart, row, people)
            self.assertEqual(least, 0)
            self.assertEqual(greatest, count_moves(chart, row, people))
            self.assertEqual(greatest, sum([len(path_to(chart, k)) - 1 for k in range(40)]))

    def test_a_thousand_posts(self):
        for seed in range(3):
            chart = random_chart(seed, 1000)
            self.assertIsNone(check_chart(chart))
            self.assertIsNone(check_arrangement(chart, random_arrangement(seed, chart, empty=seed)))


if __name__ == "__main__":
    unittest.main()
