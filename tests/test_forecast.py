"""Points 55 and 56: who will hold a post, and how high people will come."""

import unittest
from itertools import combinations, permutations
from math import comb, factorial
from random import Random

from movingup.arrangements import check_arrangement, leave
from movingup.charts import check_chart, posts_below
from movingup.errors import InvalidArrangement, InvalidChart, InvalidNumber, InvalidPerson, InvalidPost
from movingup.forecast import count_reaching, highest_posts, holders_after
from oracle import (
    ARRANGEMENT, BAD_CHARTS, CHART, HALF_EMPTY, NOT_ARRANGEMENTS, NOT_PEOPLE, NOT_WHOLE,
    climb, medium_cases, people_of, random_arrangement, random_chart, remaining, small_cases, subsets)

EMPTY = (None,) * 6
FORTY_LINE = (None,) + tuple(range(39))
FORTY_STAR = (None,) + (0,) * 39
FORTY_PEOPLE = tuple(range(10 ** 17, 10 ** 17 + 40))
BAD_ROWS = (*NOT_ARRANGEMENTS, (1, 2, 4, 5, 3, 4), (1, 2, 4, 5, 3, 0), (1, 2, 4, 5, True, 6), (2, 1, 4, 5, 3, 6))


def cases():
    yield from small_cases()
    yield from medium_cases()


def after_each_set(chart, row):
    """For each set of leavers the arrangement that is left, by the people of the set."""
    return {tuple(leavers): remaining(chart, row, leavers) for leavers in subsets(people_of(row))}


def counted(holders):
    """How often each holder occurs, the empty post first."""
    found = [(person, holders.count(person)) for person in people_of(set(holders))]
    empty = holders.count(None)
    return [(None, empty)] * (empty > 0) + found


def highest_of_all(chart, row, person):
    """The highest post of a person in each sequence of all departures, by a walk through it."""
    rows = after_each_set(chart, row)
    found = []
    for sequence in permutations(people_of(row)):
        posts = [rows[tuple(sorted(sequence[:k]))].index(person) for k in range(sequence.index(person) + 1)]
        # On a path the higher one of two posts has the smaller number.
        found.append(min(posts))
    return found


class Document(unittest.TestCase):
    def test_examples(self):
        chart, row = (None, 0, 0), (1, 2, 3)
        self.assertEqual(holders_after(chart, row, 0, 1), [(1, 2), (2, 1)])
        self.assertEqual(count_reaching(chart, row, 3, 0), 2)
        self.assertEqual(highest_posts(chart, row, 2), [(1, 3), (0, 3)])

    def test_by_name(self):
        asked = {"chart": (None, 0, 0), "arrangement": (1, 2, 3)}
        self.assertEqual(holders_after(post=0, size=1, **asked), [(1, 2), (2, 1)])
        self.assertEqual(count_reaching(person=3, post=0, **asked), 2)
        self.assertEqual(highest_posts(person=2, **asked), [(1, 3), (0, 3)])


class HoldersAfter(unittest.TestCase):
    def test_all_sets(self):
        for chart, row in cases():
            rows = after_each_set(chart, row)
            for post in range(len(chart)):
                for size in range(len(chart) + 2):
                    holders = [after[post] for leavers, after in rows.items() if len(leavers) == size]
                    self.assertEqual(holders_after(chart, row, post, size), counted(holders))

    def test_nobody_leaves(self):
        self.assertEqual([holders_after(CHART, ARRANGEMENT, k, 0) for k in range(6)],
                         [[(person, 1)] for person in ARRANGEMENT])
        self.assertEqual(holders_after(CHART, HALF_EMPTY, 4, 0), [(None, 1)])

    def test_everybody_leaves(self):
        for post in range(6):
            self.assertEqual(holders_after(CHART, ARRANGEMENT, post, 6), [(None, 1)])

    def test_more_people_than_there_are(self):
        for size in (7, 41, 10 ** 18, 10 ** 899):
            self.assertEqual(holders_after(CHART, ARRANGEMENT, 0, size), [])
            self.assertEqual(holders_after(CHART, EMPTY, 5, size), [])
        self.assertEqual(holders_after(CHART, HALF_EMPTY, 0, 5), [])

    def test_without_people(self):
        for post in range(6):
            self.assertEqual([holders_after(CHART, EMPTY, post, size) for size in (0, 1)], [[(None, 1)], []])

    def test_chart_of_one_post(self):
        self.assertEqual([holders_after((None,), (0,), 0, size) for size in range(3)], [[(0, 1)], [(None, 1)], []])
        self.assertEqual([holders_after((None,), (None,), 0, size) for size in range(2)], [[(None, 1)], []])

    def test_a_post_without_anybody_below(self):
        self.assertEqual(holders_after(CHART, HALF_EMPTY, 3, 2), [(None, 6)])


class Sequences(unittest.TestCase):
    def test_all_sequences(self):
        for chart, row in small_cases():
            for person in people_of(row):
                self.check(chart, row, person)

    def test_more_people(self):
        for chart, row in list(medium_cases())[::2]:
            for person in people_of(row)[::2]:
                self.check(chart, row, person)

    def check(self, chart, row, person):
        found = highest_of_all(chart, row, person)
        way = climb(chart, row.index(person))
        self.assertEqual(highest_posts(chart, row, person), [(post, found.count(post)) for post in way])
        for post in way:
            self.assertEqual(count_reaching(chart, row, person, post), len([k for k in found if k <= post]))

    def test_the_post_of_the_beginning(self):
        for person in ARRANGEMENT:
            self.assertEqual(count_reaching(CHART, ARRANGEMENT, person, ARRANGEMENT.index(person)), 720)

    def test_the_head(self):
        self.assertEqual(highest_posts(CHART, ARRANGEMENT, 1), [(0, 720)])

    def test_each_post_of_the_path_is_sometimes_the_highest(self):
        self.assertEqual(highest_posts((None, 0, 1), (1, 2, None), 2), [(1, 1), (0, 1)])
        self.assertEqual(highest_posts((None, 0, 0), (1, None, 2), 2), [(2, 1), (0, 1)])
        self.assertEqual(highest_posts((None, 0, 1, 0), (1, 4, 5, 2), 5), [(2, 10), (1, 8), (0, 6)])

    def test_chart_of_one_post(self):
        self.assertEqual(highest_posts((None,), (0,), 0), [(0, 1)])
        self.assertEqual(count_reaching((None,), (0,), 0, 0), 1)


class Limits(unittest.TestCase):
    def test_line(self):
        # Who stands behind d people comes up by one post for each of those who leave earlier.
        for deep in (0, 1, 20, 39):
            expected = [(post, factorial(40) // (deep + 1)) for post in range(deep, -1, -1)]
            self.assertEqual(highest_posts(FORTY_LINE, FORTY_PEOPLE, FORTY_PEOPLE[deep]), expected)
            for post in (0, deep // 2, deep):
                self.assertEqual(count_reaching(FORTY_LINE, FORTY_PEOPLE, FORTY_PEOPLE[deep], post),
                                 factorial(40) // (deep + 1) * (post + 1))
        for post in (0, 17, 39):
            for size in (0, 1, 20, 33, 40):
                numbers = [(person, comb(k, k - post) * comb(39 - k, size - (k - post)))
                           for k, person in enumerate(FORTY_PEOPLE) if post <= k <= post + size]
                empty = comb(40, size) - sum([number for _, number in numbers])
                expected = [pair for pair in [(None, empty)] + numbers if pair[1] > 0]
                self.assertEqual(holders_after(FORTY_LINE, FORTY_PEOPLE, post, size), expected)

    def test_star(self):
        for k in (1, 2, 20, 39):
            all_of_them = factorial(40)
            self.assertEqual(count_reaching(FORTY_STAR, FORTY_PEOPLE, FORTY_PEOPLE[k], 0), all_of_them // (k + 1))
            self.assertEqual(highest_posts(FORTY_STAR, FORTY_PEOPLE, FORTY_PEOPLE[k]),
                             [(k, all_of_them - all_of_them // (k + 1)), (0, all_of_them // (k + 1))])
        for size in (1, 20, 39):
            self.assertEqual(holders_after(FORTY_STAR, FORTY_PEOPLE, 0, size),
                             [(FORTY_PEOPLE[k], comb(39 - k, size - k)) for k in range(size + 1)])
        self.assertEqual(holders_after(FORTY_STAR, FORTY_PEOPLE, 0, 40), [(None, 1)])

    def test_random_charts(self):
        for seed in range(6):
            chart = random_chart(seed, 40)
            row = random_arrangement(seed, chart, empty=seed % 3)
            people = people_of(row)
            for post in range(0, 40, 3):
                for size in (0, 1, 2, len(people) - 1, len(people)):
                    rows = [leave(chart, row, *leavers) for leavers in combinations(people, size)] if size != 2 else []
                    found = holders_after(chart, row, post, size)
                    if rows:
                        self.assertEqual(found, counted([after[post] for after in rows]))
                    self.assertEqual(sum([number for _, number in found]), comb(len(people), size))
                found = holders_after(chart, row, post, 20)
                self.assertEqual(sum([number for _, number in found]), comb(len(people), 20))
                below = people_of([row[k] for k in posts_below(chart, post)])
                self.assertLessEqual({person for person, _ in found}, {None, *below})

    def test_sets_of_two(self):
        chart = random_chart(3, 40)
        row = random_arrangement(3, chart)
        rows = [leave(chart, row, *leavers) for leavers in combinations(people_of(row), 2)]
        for post in range(40):
            self.assertEqual(holders_after(chart, row, post, 2), counted([after[post] for after in rows]))

    def test_sequences_of_random_charts(self):
        for seed in range(6):
            chart = random_chart(seed, 40)
            row = random_arrangement(seed, chart, empty=seed % 3)
            people = people_of(row)
            many = len(people)
            for person in people[::7] + people[-1:]:
                found = highest_posts(chart, row, person)
                way = climb(chart, row.index(person))
                self.assertEqual([post for post, _ in found], way)
                self.assertEqual(sum([number for _, number in found]), factorial(many))
                for k, post in enumerate(way):
                    higher = sum([number for _, number in found[k:]])
                    self.assertEqual(count_reaching(chart, row, person, post), higher)
                # At the head stands the most senior one of all who remain.
                self.assertEqual(found[-1], (0, factorial(many) // (people.index(person) + 1)))

    def test_as_often_as_in_a_sample(self):
        chart = random_chart(8, 40)
        row = random_arrangement(8, chart)
        source, person = Random(8), people_of(row)[-1]
        found = []
        for _ in range(600):
            sequence = people_of(row)
            source.shuffle(sequence)
            found.append(leave(chart, row, *sequence[:sequence.index(person)]).index(person))
        for post, number in highest_posts(chart, row, person):
            self.assertLess(abs(found.count(post) / 600 - number / factorial(40)), 0.07)


class Errors(unittest.TestCase):
    def calls(self, chart, row, third, fourth):
        yield lambda: holders_after(chart, row, third, fourth)
        yield lambda: count_reaching(chart, row, third, fourth)
        yield lambda: highest_posts(chart, row, third)

    def check(self, error, field, value, call):
        with self.assertRaises(error) as caught:
            call()
        self.assertIs(type(caught.exception), error)
        self.assertEqual(getattr(caught.exception, field), value)

    def test_chart_first(self):
        for chart in BAD_CHARTS:
            for rest in ((ARRANGEMENT, 1, 1), (None, None, None)):
                for call in self.calls(chart, *rest):
                    self.check(InvalidChart, "reason", check_chart(chart), call)

    def test_arrangement_second(self):
        for row in BAD_ROWS:
            for rest in ((1, 1), (None, None), (-1, -1)):
                for call in self.calls(CHART, row, *rest):
                    self.check(InvalidArrangement, "reason", check_arrangement(CHART, row), call)

    def test_post_third_and_size_last(self):
        for post in (*NOT_WHOLE, -1, 6, 10 ** 899):
            for size in (0, -1, None):
                self.check(InvalidPost, "post", post, lambda: holders_after(CHART, ARRANGEMENT, post, size))
        for size in NOT_PEOPLE:
            self.check(InvalidNumber, "number", size, lambda: holders_after(CHART, ARRANGEMENT, 5, size))

    def test_person_third(self):
        for person in (*NOT_PEOPLE, 0, 7, 10 ** 18):
            for post in (0, 6, None):
                self.check(InvalidPerson, "person", person, lambda: count_reaching(CHART, ARRANGEMENT, person, post))
            self.check(InvalidPerson, "person", person, lambda: highest_posts(CHART, ARRANGEMENT, person))
        self.check(InvalidPerson, "person", 1, lambda: highest_posts(CHART, HALF_EMPTY, 1))
        self.check(InvalidPerson, "person", 0, lambda: highest_posts((None,), (None,), 0))

    def test_post_on_the_path_last(self):
        for post in (*NOT_WHOLE, -1, 2, 3, 5, 6, 10 ** 899):
            self.check(InvalidPost, "post", post, lambda: count_reaching(CHART, ARRANGEMENT, 3, post))
        # A post below the one of the person is not on the path to it.
        self.check(InvalidPost, "post", 4, lambda: count_reaching(CHART, ARRANGEMENT, 2, 4))

    def test_results_are_new(self):
        holders_after(CHART, ARRANGEMENT, 0, 2).clear()
        highest_posts(CHART, ARRANGEMENT, 6).clear()
        self.assertEqual(sum([number for _, number in holders_after(CHART, ARRANGEMENT, 0, 2)]), 15)
        self.assertEqual([post for post, _ in highest_posts(CHART, ARRANGEMENT, 6)], [5, 2, 0])


if __name__ == "__main__":
    unittest.main()
