"""Points 40 to 43: which departures, and which earlier arrangements, led to an arrangement."""

import unittest
from itertools import islice, permutations
from math import factorial

from movingup.arrangements import check_arrangement, leave
from movingup.backward import (
    count_earlier, departures, each_earlier, earlier_at, earlier_index, posts_of_joining)
from movingup.charts import check_chart
from movingup.errors import IndexTooLarge, InvalidArrangement, InvalidChart, InvalidNumber, InvalidPeople
from oracle import (
    ARRANGEMENT, BAD_CHARTS, CHART, HALF_EMPTY, NOT_ARRANGEMENTS, NOT_LISTS, NOT_PEOPLE,
    all_arrangements, all_charts, another_arrangement, climb, fits, people_of, random_arrangement, random_chart,
    remaining, small_cases, subsets)

EMPTY = (None,) * 6
FORTY_LINE = (None,) + tuple(range(39))
FORTY_STAR = (None,) + (0,) * 39
FORTY_PEOPLE = list(range(10 ** 17, 10 ** 17 + 40))
NOBODY = (None,) * 40


def joined_posts(chart, row, people):
    """The posts of joining: those that become empty when people leave from the most junior on."""
    posts = []
    for k in range(len(people), 0, -1):
        after = remaining(chart, row, sorted(people)[k - 1:])
        before = remaining(chart, row, sorted(people)[k:])
        posts.append([post for post in range(len(row)) if after[post] is None and before[post] is not None][0])
    return posts[::-1]


def found_earlier(chart, row, people):
    """All earlier arrangements, of all arrangements that there are, by their posts of joining."""
    rows = all_arrangements(chart, people_of(row) + people)
    found = [other for other in rows
             if people_of(other) == sorted(people_of(row) + people) and remaining(chart, other, people) == row]
    return sorted(found, key=lambda other: joined_posts(chart, other, people))


def earlier_cases():
    """Small arrangements with even people, and odd ones who hold no post."""
    for chart, row in small_cases():
        row = tuple(None if person is None else 2 * person for person in row)
        for size in range(row.count(None) + 1):
            yield chart, row, [3, 1, 5, 7][:size] if len(row) % 2 else [1, 9, 3, 4 + size][:size]


class Departures(unittest.TestCase):
    def test_document(self):
        self.assertEqual(departures(CHART, ARRANGEMENT, HALF_EMPTY), ("leavers", [1, 2]))
        self.assertEqual(departures(CHART, ARRANGEMENT, (3, 4, 5, None, None, 6)), ("never", 1))

    def test_nobody_left(self):
        for row in (ARRANGEMENT, HALF_EMPTY, EMPTY):
            self.assertEqual(departures(CHART, row, row), ("leavers", []))
        self.assertEqual(departures((None,), (0,), (0,)), ("leavers", []))

    def test_everybody_left(self):
        self.assertEqual(departures(CHART, ARRANGEMENT, EMPTY), ("leavers", [1, 2, 3, 4, 5, 6]))
        self.assertEqual(departures((None,), (0,), (None,)), ("leavers", [0]))

    def test_most_senior_stranger(self):
        self.assertEqual(departures(CHART, HALF_EMPTY, ARRANGEMENT), ("stranger", 1))
        self.assertEqual(departures(CHART, EMPTY, ARRANGEMENT), ("stranger", 1))
        self.assertEqual(departures(CHART, ARRANGEMENT, (4, 9, 5, 10, None, 8)), ("stranger", 8))
        self.assertEqual(departures((None,), (1,), (0,)), ("stranger", 0))

    def test_smallest_post_that_differs(self):
        self.assertEqual(departures(CHART, ARRANGEMENT, (1, 2, 4, 5, None, 6)), ("leavers", [3]))
        self.assertEqual(departures(CHART, ARRANGEMENT, (1, 2, 4, 3, 5, 6)), ("never", 3))
        self.assertEqual(departures(CHART, ARRANGEMENT, (1, 2, 4, 5, 6, None)), ("never", 4))
        self.assertEqual(departures(CHART, ARRANGEMENT, (1, 2, 4, 3, None, None)), ("never", 3))

    def test_all_pairs_of_small_arrangements(self):
        for chart in all_charts(3) + [(None,), (None, 0, 0, 1)]:
            rows = all_arrangements(chart, range(4) if len(chart) < 4 else range(3))
            for before in rows:
                tried = [(remaining(chart, before, leavers), leavers) for leavers in subsets(people_of(before))]
                for after in rows:
                    self.assertEqual(departures(chart, before, after), self.expected(chart, before, after, tried))

    def expected(self, chart, before, after, tried):
        for rest, leavers in tried:
            if rest == after:
                return ("leavers", leavers)
        strangers = set(people_of(after)) - set(people_of(before))
        if strangers:
            return ("stranger", min(strangers))
        rest = remaining(chart, before, set(people_of(before)) - set(people_of(after)))
        return ("never", [post for post in range(len(chart)) if rest[post] != after[post]][0])

    def test_limits(self):
        for seed in range(10):
            chart = random_chart(seed, 40)
            row = random_arrangement(seed, chart, empty=seed % 3)
            leavers = people_of(row)[seed % 2::2]
            self.assertEqual(departures(chart, row, remaining(chart, row, leavers)), ("leavers", leavers))
            self.assertEqual(departures(chart, remaining(chart, row, leavers), row), ("stranger", leavers[0]))
            other = another_arrangement(seed + 1, chart, people_of(row))
            differing = [post for post in range(40) if other[post] != row[post]][0]
            self.assertEqual(departures(chart, row, other), ("never", differing))

    def test_errors(self):
        for chart in BAD_CHARTS:
            for rows in ((ARRANGEMENT, ARRANGEMENT), (None, None)):
                with self.assertRaises(InvalidChart) as caught:
                    departures(chart, *rows)
                self.assertEqual(caught.exception.reason, check_chart(chart))
        for row in (*NOT_ARRANGEMENTS, (2, 1, 4, 5, 3, 6)):
            for before, after in ((row, ARRANGEMENT), (ARRANGEMENT, row), (row, ()), (row, (1, 1, 1, 1, 1, 1))):
                with self.assertRaises(InvalidArrangement) as caught:
                    departures(CHART, before, after)
                self.assertEqual(caught.exception.reason, check_arrangement(CHART, row))


class Earlier(unittest.TestCase):
    def test_document(self):
        self.assertEqual(count_earlier(CHART, HALF_EMPTY, 2), 2)
        self.assertEqual(earlier_at(CHART, HALF_EMPTY, [1, 2], 1), (1, 2, 4, 3, 5, 6))
        self.assertEqual(posts_of_joining(CHART, ARRANGEMENT, [1, 2]), [3, 4])
        self.assertEqual(earlier_index(CHART, ARRANGEMENT, [2, 1]), 0)

    def test_small_cases(self):
        for chart, row, people in earlier_cases():
            found = found_earlier(chart, row, people)
            self.assertEqual(count_earlier(chart, row, len(people)), len(found))
            self.assertEqual(list(each_earlier(chart, row, people)), found)
            for index, before in enumerate(found):
                self.assertEqual(earlier_at(chart, row, people, index), before)
                self.assertEqual(earlier_index(chart, before, people), index)
                self.assertEqual(posts_of_joining(chart, before, people), joined_posts(chart, before, people))
            with self.assertRaises(IndexTooLarge) as caught:
                earlier_at(chart, row, people, len(found))
            self.assertEqual(caught.exception.count, len(found))

    def test_count_is_the_same_whoever_they_are(self):
        for people in permutations((0, 7, 5), 2):
            found = found_earlier((None, 0, 0, 1), (6, None, 8, None), list(people))
            self.assertEqual(count_earlier((None, 0, 0, 1), (6, None, 8, None), 2), len(found))

    def test_order_of_the_people_does_not_matter(self):
        for people in permutations((0, 7, 5)):
            row = (3, None, 4, None, None, None)
            self.assertEqual(list(each_earlier(CHART, row, list(people))), list(each_earlier(CHART, row, [0, 5, 7])))
            before = earlier_at(CHART, row, list(people), 5)
            self.assertEqual(before, earlier_at(CHART, row, [0, 5, 7], 5))
            self.assertEqual(earlier_index(CHART, before, list(people)), 5)
            self.assertEqual(posts_of_joining(CHART, before, list(people)), posts_of_joining(CHART, before, [0, 5, 7]))

    def test_nobody(self):
        for row in (ARRANGEMENT, HALF_EMPTY, EMPTY):
            self.assertEqual(count_earlier(CHART, row, 0), 1)
            self.assertEqual(earlier_at(CHART, row, [], 0), row)
            self.assertEqual(list(each_earlier(CHART, row, [])), [row])
            self.assertEqual(posts_of_joining(CHART, row, []), [])
            self.assertEqual(earlier_index(CHART, row, []), 0)

    def test_more_people_than_empty_posts(self):
        for row, people in ((ARRANGEMENT, [7]), (HALF_EMPTY, [1, 2, 7]), (EMPTY, [1, 2, 3, 4, 5, 6, 7])):
            self.assertEqual(count_earlier(CHART, row, len(people)), 0)
            self.assertEqual(list(each_earlier(CHART, row, people)), [])
            with self.assertRaises(IndexTooLarge) as caught:
                earlier_at(CHART, row, people, 0)
            self.assertEqual(caught.exception.count, 0)
        self.assertEqual(count_earlier(CHART, EMPTY, 10 ** 899), 0)

    def test_empty_arrangement(self):
        self.assertEqual([count_earlier(CHART, EMPTY, k) for k in range(8)], [1, 1, 2, 5, 11, 20, 20, 0])
        self.assertEqual([count_earlier((None,), (None,), k) for k in range(3)], [1, 1, 0])
        self.assertEqual(list(each_earlier((None,), (None,), [3])), [(3,)])
        self.assertEqual(posts_of_joining(CHART, ARRANGEMENT, [6, 5, 4, 3, 2, 1]), [0, 1, 4, 2, 3, 5])

    def test_formula_for_all_empty_posts(self):
        for seed in range(10):
            chart = random_chart(seed, 40)
            row = remaining(chart, random_arrangement(seed, chart), FORTY_PEOPLE)
            row = leave(chart, row, *people_of(row)[seed:])
            empty = [post for post in range(40) if row[post] is None]
            divisor = 1
            for post in empty:
                divisor *= len([k for k in range(40) if post in climb(chart, k)])
            self.assertEqual(count_earlier(chart, row, len(empty)), factorial(len(empty)) // divisor)
            self.assertEqual(count_earlier(chart, row, len(empty) + 1), 0)

    def test_results_are_new(self):
        people = [2, 1]
        posts_of_joining(CHART, ARRANGEMENT, people).append(9)
        self.assertEqual(posts_of_joining(CHART, ARRANGEMENT, people), [3, 4])
        earlier_at(CHART, HALF_EMPTY, people, 0)
        earlier_index(CHART, ARRANGEMENT, people)
        list(each_earlier(CHART, HALF_EMPTY, people))
        self.assertEqual(people, [2, 1])

    def test_a_generator_that_is_only_begun(self):
        rows = each_earlier(CHART, HALF_EMPTY, [1, 2])
        self.assertEqual(next(rows), ARRANGEMENT)
        self.assertEqual(list(each_earlier(CHART, HALF_EMPTY, [1, 2])), [ARRANGEMENT, (1, 2, 4, 3, 5, 6)])
        self.assertEqual(list(rows), [(1, 2, 4, 3, 5, 6)])
        self.assertEqual(list(rows), [])


class Limits(unittest.TestCase):
    def test_line_and_star(self):
        for size in (0, 1, 20, 40):
            self.assertEqual(count_earlier(FORTY_LINE, NOBODY, size), 1)
            self.assertEqual(list(each_earlier(FORTY_LINE, NOBODY, FORTY_PEOPLE[:size])),
                             [tuple(FORTY_PEOPLE[:size]) + (None,) * (40 - size)])
        self.assertEqual(count_earlier(FORTY_STAR, NOBODY, 40), factorial(39))
        self.assertEqual(count_earlier(FORTY_STAR, NOBODY, 21), factorial(39) // factorial(19))
        self.assertEqual(earlier_at(FORTY_STAR, NOBODY, FORTY_PEOPLE, factorial(39) - 1),
                         (FORTY_PEOPLE[0], *FORTY_PEOPLE[:0:-1]))

    def test_random_charts(self):
        for seed in range(8):
            chart = random_chart(seed, 40)
            row = random_arrangement(seed, chart, empty=(40, 30, 25, 20)[seed % 4])
            for size in (row.count(None), row.count(None) - 1, 9):
                people = [k * 10 ** 16 + k for k in range(91, 91 - size, -1)]
                count = count_earlier(chart, row, size)
                first = list(islice(each_earlier(chart, row, people), 30))
                self.assertEqual(first[0], earlier_at(chart, row, people, 0))
                self.assertEqual(first[-1], earlier_at(chart, row, people, len(first) - 1))
                all_posts = []
                for index in (0, 1, 17, count // 3, count // 2, count - 1):
                    before = earlier_at(chart, row, people, index)
                    self.assertTrue(fits(chart, before))
                    self.assertEqual(remaining(chart, before, people), row)
                    self.assertEqual(earlier_index(chart, before, people), index)
                    all_posts.append(posts_of_joining(chart, before, people))
                self.assertEqual(all_posts[-1], joined_posts(chart, before, people))
                self.assertEqual(all_posts, sorted(all_posts))

    def test_a_generator_over_very_many(self):
        rows = each_earlier(FORTY_STAR, NOBODY, FORTY_PEOPLE[::-1])
        self.assertEqual(next(rows), tuple(FORTY_PEOPLE))
        self.assertEqual(next(rows), (*FORTY_PEOPLE[:38], FORTY_PEOPLE[39], FORTY_PEOPLE[38]))


class Errors(unittest.TestCase):
    def calls(self, chart, row, people, rest=None):
        yield lambda: earlier_at(chart, row, people, rest)
        yield lambda: next(each_earlier(chart, row, people))
        yield lambda: posts_of_joining(chart, row, people)
        yield lambda: earlier_index(chart, row, people)
        yield lambda: count_earlier(chart, row, rest)

    def check(self, error, field, value, calls):
        for call in calls:
            with self.assertRaises(error) as caught:
                call()
            self.assertEqual(getattr(caught.exception, field), value)

    def test_chart_first(self):
        for chart in BAD_CHARTS:
            for rest in ((ARRANGEMENT, []), (None, None)):
                self.check(InvalidChart, "reason", check_chart(chart), self.calls(chart, *rest))

    def test_arrangement_second(self):
        for row in (*NOT_ARRANGEMENTS, (1, 2, 4, 5, 3, 4), (1, 2, 4, 5, 3, 0), (1, 2, 4, 5, True, 6)):
            for people in ([], None):
                self.check(InvalidArrangement, "reason", check_arrangement(CHART, row), self.calls(CHART, row, people))

    def test_people_are_not_a_list(self):
        for people in NOT_LISTS:
            self.check(InvalidPeople, "index", None, list(self.calls(CHART, HALF_EMPTY, people))[:4])

    def test_people_who_hold_posts_already(self):
        for item in (*NOT_PEOPLE, 3, 5, 6, 7):
            calls = list(self.calls(CHART, HALF_EMPTY, [7, 0, item, None, 3]))[:2]
            self.check(InvalidPeople, "index", 2, calls)

    def test_people_who_hold_no_posts(self):
        for item in (*NOT_PEOPLE, 0, 1, 7, 3):
            calls = list(self.calls(CHART, HALF_EMPTY, [3, 6, item, None, 3]))[2:4]
            self.check(InvalidPeople, "index", 2, calls)

    def test_index_last(self):
        for index in (*NOT_PEOPLE, 2, 3, 10 ** 899):
            with self.assertRaises(IndexTooLarge) as caught:
                earlier_at(CHART, HALF_EMPTY, [1, 2], index)
            self.assertEqual(caught.exception.count, 2)

    def test_count(self):
        for count in NOT_PEOPLE:
            with self.assertRaises(InvalidNumber) as caught:
                count_earlier(CHART, HALF_EMPTY, count)
            self.assertIs(caught.exception.number, count)

    def test_a_generator_raises_when_its_iteration_begins(self):
        for arguments, error in (
                (((), HALF_EMPTY, [1]), InvalidChart), ((CHART, (), [1]), InvalidArrangement),
                ((CHART, HALF_EMPTY, [3]), InvalidPeople), ((CHART, HALF_EMPTY, None), InvalidPeople)):
            rows = each_earlier(*arguments)
            with self.assertRaises(error):
                next(rows)

    def test_by_name(self):
        self.assertEqual(departures(chart=CHART, before=ARRANGEMENT, after=HALF_EMPTY), ("leavers", [1, 2]))
        self.assertEqual(count_earlier(chart=CHART, arrangement=HALF_EMPTY, count=1), 2)
        self.assertEqual(earlier_at(chart=CHART, arrangement=HALF_EMPTY, people=[1, 2], index=0), ARRANGEMENT)
        self.assertEqual(next(each_earlier(chart=CHART, arrangement=HALF_EMPTY, people=[1, 2])), ARRANGEMENT)
        self.assertEqual(posts_of_joining(chart=CHART, before=ARRANGEMENT, people=[1]), [4])
        self.assertEqual(earlier_index(chart=CHART, before=ARRANGEMENT, people=[1]), 0)


if __name__ == "__main__":
    unittest.main()
