"""Points 30 to 32: posts after departures, and numbers of moves."""

import unittest
from itertools import permutations

from movingup.arrangements import check_arrangement
from movingup.charts import check_chart
from movingup.errors import InvalidArrangement, InvalidChart, InvalidPeople, InvalidPerson
from movingup.standing import career, count_moves, moves_range, post_after
from oracle import (
    ARRANGEMENT, BAD_CHARTS, CHART, HALF_EMPTY, NOT_ARRANGEMENTS, NOT_LISTS, NOT_PEOPLE,
    climb, moves_of, moves_of_all_orders, people_of, random_arrangement, random_chart, remaining, small_cases)

EMPTY = (None,) * 6
FORTY_LINE = (None,) + tuple(range(39))
FORTY_STAR = (None,) + (0,) * 39
FORTY_PEOPLE = tuple(range(10 ** 17, 10 ** 17 + 40))


def small_departures():
    for chart, row in small_cases():
        people = people_of(row)
        for size in range(len(people) + 1):
            for order in permutations(people, size):
                yield chart, row, list(order)


def walk_down(chart, row, leavers, person):
    """The post after departures, as the note in point 30 tells it."""
    path = climb(chart, row.index(person))[::-1]
    depth = 0
    for other in people_of(row):
        if other < person and other not in leavers and path[depth] in climb(chart, row.index(other)):
            depth += 1
    return path[depth]


class Standing(unittest.TestCase):
    def test_document(self):
        self.assertEqual(post_after(CHART, ARRANGEMENT, [2, 1], 3), 0)
        self.assertEqual(career(CHART, ARRANGEMENT, [1, 2], 3), [4, 1, 0])
        self.assertEqual(career(CHART, ARRANGEMENT, [1, 2], 5), [3, 3, 1])

    def test_nobody_leaves(self):
        self.assertEqual([post_after(CHART, ARRANGEMENT, [], 3), career(CHART, ARRANGEMENT, [], 3)], [4, [4]])
        self.assertEqual([post_after((None,), (0,), [], 0), career((None,), (0,), [], 0)], [0, [0]])

    def test_everybody_else_leaves(self):
        for person in ARRANGEMENT:
            others = [k for k in ARRANGEMENT if k != person]
            self.assertEqual(post_after(CHART, ARRANGEMENT, others, person), 0)
            self.assertEqual(post_after(CHART, ARRANGEMENT, others[::-1], person), 0)

    def test_juniors_who_leave_change_nothing(self):
        self.assertEqual(career(CHART, ARRANGEMENT, [6, 5, 4], 3), [4, 4, 4, 4])

    def test_small_cases(self):
        for chart, row, leavers in small_departures():
            for person in people_of(row):
                if person not in leavers:
                    rows = [remaining(chart, row, leavers[:k]) for k in range(len(leavers) + 1)]
                    self.assertEqual(career(chart, row, leavers, person), [held.index(person) for held in rows])
                    self.assertEqual(post_after(chart, row, leavers, person), rows[-1].index(person))
                    self.assertEqual(post_after(chart, row, leavers, person), walk_down(chart, row, leavers, person))

    def test_limits(self):
        for seed in range(20):
            chart = random_chart(seed, 40)
            row = random_arrangement(seed, chart, empty=seed % 4)
            leavers, person = people_of(row)[:-1:2], people_of(row)[-1]
            self.assertEqual(post_after(chart, row, leavers, person), walk_down(chart, row, leavers, person))
        self.assertEqual(career(FORTY_LINE, FORTY_PEOPLE, list(FORTY_PEOPLE[:-1]), FORTY_PEOPLE[-1]),
                         list(range(39, -1, -1)))

    def test_arguments_and_results_are_independent(self):
        leavers = [1, 2]
        posts = career(CHART, ARRANGEMENT, leavers, 3)
        leavers.append(3)
        self.assertEqual(posts, [4, 1, 0])
        posts.append(9)
        self.assertEqual(career(CHART, ARRANGEMENT, [1, 2], 3), [4, 1, 0])

    def test_arguments_are_not_changed(self):
        leavers = [2, 1, 5]
        for ask in (post_after, career):
            ask(CHART, ARRANGEMENT, leavers, 3)
        for ask in (count_moves, moves_range):
            ask(CHART, ARRANGEMENT, leavers)
        self.assertEqual(leavers, [2, 1, 5])

    def test_by_name(self):
        self.assertEqual(post_after(chart=CHART, arrangement=ARRANGEMENT, leavers=[1], person=3), 1)
        self.assertEqual(career(chart=CHART, arrangement=ARRANGEMENT, leavers=[1], person=3), [4, 1])
        self.assertEqual(count_moves(chart=CHART, arrangement=ARRANGEMENT, leavers=[1]), 2)
        self.assertEqual(moves_range(chart=CHART, arrangement=ARRANGEMENT, leavers=[1]), (2, 2))


class Moves(unittest.TestCase):
    def test_document(self):
        self.assertEqual([count_moves(CHART, ARRANGEMENT, [1, 2]), count_moves(CHART, ARRANGEMENT, [2, 1])], [4, 3])
        self.assertEqual(moves_range(CHART, ARRANGEMENT, [1, 2]), (3, 4))
        self.assertEqual(moves_range(CHART, ARRANGEMENT, [2, 1]), (3, 4))

    def test_nobody_leaves(self):
        for row in (ARRANGEMENT, HALF_EMPTY, EMPTY):
            self.assertEqual([count_moves(CHART, row, []), moves_range(CHART, row, [])], [0, (0, 0)])

    def test_everybody_leaves(self):
        counts = [count_moves(CHART, ARRANGEMENT, list(order)) for order in permutations(ARRANGEMENT)]
        self.assertEqual(moves_range(CHART, ARRANGEMENT, list(ARRANGEMENT)), (min(counts), max(counts)))
        self.assertEqual([count_moves((None,), (0,), [0]), moves_range((None,), (0,), [0])], [0, (0, 0)])

    def test_count_in_small_cases(self):
        for chart, row, leavers in small_departures():
            self.assertEqual(count_moves(chart, row, leavers), moves_of(chart, row, leavers))

    def test_range_in_small_cases(self):
        for chart, row, leavers in small_departures():
            counts = moves_of_all_orders(chart, row, leavers)
            self.assertEqual(moves_range(chart, row, leavers), (min(counts), max(counts)))

    def test_range_in_random_cases(self):
        for seed in range(12):
            chart = random_chart(seed, 9)
            row = random_arrangement(seed, chart, empty=seed % 2)
            leavers = people_of(row)[seed % 3::2]
            counts = moves_of_all_orders(chart, row, leavers)
            self.assertEqual(moves_range(chart, row, leavers), (min(counts), max(counts)))

    def test_limits(self):
        people = list(FORTY_PEOPLE)
        self.assertEqual(moves_range(FORTY_LINE, FORTY_PEOPLE, people), (0, 780))
        self.assertEqual(moves_range(FORTY_STAR, FORTY_PEOPLE, people), (0, 39))
        self.assertEqual(moves_range(FORTY_LINE, FORTY_PEOPLE, people[:39][::-1]), (39, 780))
        self.assertEqual(count_moves(FORTY_LINE, FORTY_PEOPLE, people), 780)
        self.assertEqual(count_moves(FORTY_LINE, FORTY_PEOPLE, people[::-1]), 0)


class Errors(unittest.TestCase):
    def calls(self, chart, row, leavers, person):
        yield post_after, (chart, row, leavers, person)
        yield career, (chart, row, leavers, person)
        yield count_moves, (chart, row, leavers)
        yield moves_range, (chart, row, leavers)

    def test_wrong_chart_comes_first(self):
        for chart in BAD_CHARTS:
            for rest in ((ARRANGEMENT, [1], 3), (None, None, None)):
                for ask, arguments in self.calls(chart, *rest):
                    with self.assertRaises(InvalidChart) as caught:
                        ask(*arguments)
                    self.assertEqual(caught.exception.reason, check_chart(chart))

    def test_wrong_arrangement_comes_second(self):
        for row in (*NOT_ARRANGEMENTS, (1, 2, 4, 5, 3, -6), (1, 2, 4, 5, 3, 4), (1, 2, 4, 5, 3, 0)):
            for rest in (([1], 3), (None, None)):
                for ask, arguments in self.calls(CHART, row, *rest):
                    with self.assertRaises(InvalidArrangement) as caught:
                        ask(*arguments)
                    self.assertEqual(caught.exception.reason, check_arrangement(CHART, row))

    def test_leavers_are_not_a_list(self):
        for leavers in NOT_LISTS:
            for person in (3, None):
                for ask, arguments in self.calls(CHART, ARRANGEMENT, leavers, person):
                    with self.assertRaises(InvalidPeople) as caught:
                        ask(*arguments)
                    self.assertIsNone(caught.exception.index)

    def test_first_wrong_leaver(self):
        for item in (*NOT_PEOPLE, 0, 7, 2):
            for person in (3, 2, None):
                for ask, arguments in self.calls(CHART, ARRANGEMENT, [2, 1, item, None, 1], person):
                    with self.assertRaises(InvalidPeople) as caught:
                        ask(*arguments)
                    self.assertEqual(caught.exception.index, 2)

    def test_wrong_person(self):
        for person in (*NOT_PEOPLE, 0, 7, 1, 2):
            for ask in (post_after, career):
                with self.assertRaises(InvalidPerson) as caught:
                    ask(CHART, ARRANGEMENT, [1, 2], person)
                self.assertIs(caught.exception.person, person)


if __name__ == "__main__":
    unittest.main()
