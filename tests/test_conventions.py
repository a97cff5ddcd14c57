"""Points 2 and 3: what holds for all functions, and the limits."""

import unittest
from copy import deepcopy

from movingup.arrangements import chain, check_arrangement, join, leave, open_posts, post_of, reduced
from movingup.backward import (
    count_earlier, departures, each_earlier, earlier_at, earlier_index, posts_of_joining)
from movingup.changes import (
    check_changes, check_plan, count_changes, count_stays, fewest_changes, largest_stay, play)
from movingup.charts import check_chart, common_post, path_to, posts_below
from movingup.errors import InvalidPeople, MovingUpError
from movingup.forecast import count_reaching, highest_posts, holders_after
from movingup.orders import check_order, count_orders, order_at, order_index, order_of
from movingup.standing import career, count_moves, moves_range, post_after
from movingup.texts import read, show
from movingup.wishes import (
    check_wishes, cheapest_leavers, count_leavers, each_leavers, fewest_leavers, leavers_at)
from oracle import ARRANGEMENT, CHART, HALF_EMPTY, people_of, random_arrangement, random_chart

OTHER = (1, 2, 3, 4, 5, None)
WISHES = [(3, 0), (6, 2)]
PRICES = {6: 1, 5: 0, 4: 2, 3: 2, 2: 10 ** 17, 1: 7}
PLAN = [("leave", 1), ("join", 7, 4)]

CALLS = (
    (check_chart, [CHART]),
    (path_to, [CHART, 4]),
    (posts_below, [CHART, 1]),
    (common_post, [CHART, 4, 5]),
    (check_arrangement, [CHART, ARRANGEMENT]),
    (post_of, [CHART, ARRANGEMENT, 3]),
    (open_posts, [CHART, HALF_EMPTY]),
    (leave, [CHART, ARRANGEMENT, 1, 2]),
    (chain, [CHART, ARRANGEMENT, 1]),
    (join, [CHART, HALF_EMPTY, 1, 3]),
    (reduced, [CHART, ARRANGEMENT, [6, 3, 5]]),
    (post_after, [CHART, ARRANGEMENT, [2, 1], 3]),
    (career, [CHART, ARRANGEMENT, [2, 1], 3]),
    (count_moves, [CHART, ARRANGEMENT, [2, 1]]),
    (moves_range, [CHART, ARRANGEMENT, [2, 1]]),
    (check_wishes, [CHART, ARRANGEMENT, WISHES]),
    (count_leavers, [CHART, ARRANGEMENT, WISHES, 3]),
    (leavers_at, [CHART, ARRANGEMENT, WISHES, 3, 0]),
    (each_leavers, [CHART, ARRANGEMENT, WISHES, 3]),
    (fewest_leavers, [CHART, ARRANGEMENT, WISHES]),
    (cheapest_leavers, [CHART, ARRANGEMENT, WISHES, PRICES]),
    (departures, [CHART, ARRANGEMENT, HALF_EMPTY]),
    (departures, [CHART, ARRANGEMENT, OTHER]),
    (count_earlier, [CHART, HALF_EMPTY, 2]),
    (earlier_at, [CHART, HALF_EMPTY, [2, 1], 1]),
    (each_earlier, [CHART, HALF_EMPTY, [2, 1]]),
    (posts_of_joining, [CHART, ARRANGEMENT, [2, 1]]),
    (earlier_index, [CHART, ARRANGEMENT, [2, 1]]),
    (check_order, [CHART, [0, 2, 1, 5, 3, 4]]),
    (count_orders, [CHART]),
    (order_at, [CHART, 9]),
    (order_index, [CHART, [0, 2, 1, 5, 3, 4]]),
    (order_of, [CHART, ARRANGEMENT]),
    (check_plan, [CHART, PLAN]),
    (play, [CHART, ARRANGEMENT, PLAN]),
    (largest_stay, [CHART, ARRANGEMENT, OTHER]),
    (count_changes, [CHART, ARRANGEMENT, OTHER]),
    (fewest_changes, [CHART, ARRANGEMENT, OTHER]),
    (check_changes, [CHART, ARRANGEMENT, OTHER, PLAN]),
    (count_stays, [CHART, ARRANGEMENT, OTHER, 2]),
    (holders_after, [CHART, ARRANGEMENT, 1, 2]),
    (count_reaching, [CHART, ARRANGEMENT, 3, 1]),
    (highest_posts, [CHART, ARRANGEMENT, 3]),
    (show, [CHART, HALF_EMPTY]),
    (read, [show(CHART, HALF_EMPTY)]),
)
GENERATORS = (chain, each_leavers, each_earlier)
# Where a number may be as large as it likes: the function and the place of its argument.
ANY_NUMBER = (
    (post_of, 2), (join, 2), (count_leavers, 3), (each_leavers, 3), (count_earlier, 2), (count_stays, 3),
    (holders_after, 3))
# Where any value may stand.
ANY_VALUE = (
    (check_chart, 0), (check_arrangement, 1), (check_wishes, 2), (check_order, 1), (check_plan, 1), (check_changes, 3))


def nested(depth):
    value = None
    for k in range(depth):
        value = ([value], (value,), {k: value})[k % 3]
    return value


def run(ask, arguments):
    """What a call returns; a generator is iterated."""
    result = ask(*arguments)
    return list(result) if ask in GENERATORS else result


def lists_in(value):
    """All lists inside a value, also itself."""
    if isinstance(value, (list, tuple)):
        found = [part for item in value for part in lists_in(item)]
        return [value] + found if isinstance(value, list) else found
    return []


def outcome(ask, arguments):
    """What a call returns or raises, in a form that can be compared."""
    try:
        return run(ask, arguments)
    except MovingUpError as error:
        return (error.__class__, vars(error))


class AllFunctions(unittest.TestCase):
    def test_arguments_are_never_modified(self):
        for ask, arguments in CALLS:
            before = deepcopy(arguments)
            outcome(ask, arguments)
            self.assertEqual(arguments, before)
            for k in range(len(arguments)):
                wrong = arguments[:k] + [[None, {}, [3, 1, 3]]] + arguments[k + 1:]
                before = deepcopy(wrong)
                outcome(ask, wrong)
                self.assertEqual(wrong, before)

    def test_equal_calls_have_equal_results(self):
        for ask, arguments in CALLS:
            self.assertEqual(outcome(ask, arguments), outcome(ask, deepcopy(arguments)))

    def test_lists_are_new_each_time(self):
        for ask, arguments in CALLS:
            found = lists_in(run(ask, arguments)) + lists_in(run(ask, arguments)) + lists_in(arguments)
            self.assertEqual(len({id(part) for part in found}), len(found), ask)

    def test_a_generator_does_nothing_before_its_iteration_begins(self):
        for ask in GENERATORS:
            self.assertEqual(next(ask(*dict(CALLS)[ask])), run(ask, dict(CALLS)[ask])[0])
            rows = ask(*[None] * len(dict(CALLS)[ask]))
            with self.assertRaises(MovingUpError):
                next(rows)

    def test_a_bool_is_no_whole_number(self):
        self.assertEqual(check_chart((None, False)), ("post", 1))
        self.assertEqual(check_arrangement((None, 0), (True, 2)), ("person", 0))
        self.assertEqual(check_arrangement((None, 0), (1, True)), ("person", 1))
        for ask, arguments in CALLS:
            for k in range(1, len(arguments)):
                if isinstance(arguments[k], int):
                    for value in (True, False):
                        wrong = arguments[:k] + [value] + arguments[k + 1:]
                        with self.assertRaises(MovingUpError):
                            run(ask, wrong)

    def test_any_value_at_any_place(self):
        values = (10 ** 900 - 1, "x" * 10000, nested(10), [[]] * 200000, tuple(range(200000)), dict.fromkeys(range(9)))
        for ask, arguments in CALLS:
            for value in values:
                for k in range(len(arguments)):
                    wrong = arguments[:k] + [value] + arguments[k + 1:]
                    if (ask, k) in ANY_VALUE or ((ask, k) in ANY_NUMBER and isinstance(value, int)):
                        run(ask, wrong)
                    else:
                        with self.assertRaises(MovingUpError):
                            run(ask, wrong)

    def test_any_value_for_those_who_stay(self):
        for ask, arguments in CALLS:
            if ask in (count_leavers, leavers_at, each_leavers, fewest_leavers, cheapest_leavers):
                for value in (10 ** 900 - 1, "x" * 10000, nested(10), [[]] * 200000, tuple(range(200000)), None, [1]):
                    with self.assertRaises(InvalidPeople) as caught:
                        result = ask(*arguments, staying=value)
                        list(result) if ask in GENERATORS else result
                    self.assertEqual(caught.exception.index, 0 if isinstance(value, tuple) else None)

    def test_a_failed_call_changes_nothing(self):
        leavers = [1, 2, 2]
        with self.assertRaises(InvalidPeople):
            career(CHART, ARRANGEMENT, leavers, 3)
        self.assertEqual(leavers, [1, 2, 2])
        self.assertEqual(career(CHART, ARRANGEMENT, [1, 2], 3), [4, 1, 0])


class Limits(unittest.TestCase):
    def test_forty_posts(self):
        for seed in range(10):
            chart = random_chart(seed, 40)
            row = random_arrangement(seed, chart)
            people = people_of(row)
            self.assertEqual(posts_below(chart, 0), list(range(40)))
            self.assertEqual(open_posts(chart, row), [])
            self.assertEqual(leave(chart, row, *people), (None,) * 40)
            self.assertEqual(reduced(chart, row, people[::-1]), row)
            self.assertEqual(career(chart, row, people[:39], people[39])[-1], 0)
            least, greatest = moves_range(chart, row, people)
            self.assertEqual(least, 0)
            self.assertEqual(greatest, count_moves(chart, row, people))
            self.assertEqual(greatest, sum([len(path_to(chart, k)) - 1 for k in range(40)]))

    def test_a_thousand_posts(self):
        for seed in range(3):
            chart = random_chart(seed, 1000)
            self.assertIsNone(check_chart(chart))
            self.assertIsNone(check_arrangement(chart, random_arrangement(seed, chart, empty=seed)))


if __name__ == "__main__":
    unittest.main()
