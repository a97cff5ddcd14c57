"""Points 5 to 8 and 20 to 25: arrangements, leaving and joining."""

import unittest
from itertools import combinations, permutations

from movingup.arrangements import chain, check_arrangement, join, leave, open_posts, post_of, reduced
from movingup.charts import check_chart
from movingup.errors import InvalidArrangement, InvalidChart, InvalidPeople, InvalidPerson, InvalidPost
from oracle import (
    ARRANGEMENT, BAD_CHARTS, CHART, HALF_EMPTY, NOT_ARRANGEMENTS, NOT_LISTS, NOT_PEOPLE, NOT_WHOLE,
    all_charts, climb, fits, people_of, random_arrangement, random_chart, remaining, small_cases)

EMPTY = (None,) * 6


class CheckArrangement(unittest.TestCase):
    def test_arrangements(self):
        for row in (ARRANGEMENT, HALF_EMPTY, EMPTY, (0, 1, 2, 3, 4, 5), (7, None, None, None, None, None)):
            self.assertIsNone(check_arrangement(CHART, row))
        self.assertIsNone(check_arrangement((None,), (None,)))
        self.assertIsNone(check_arrangement((None,), (0,)))
        for chart, row in small_cases():
            self.assertIsNone(check_arrangement(chart, row))

    def test_all_rows_of_small_charts(self):
        for chart in all_charts(3):
            for row in permutations((None, None, None, 0, 1, 2), 3):
                self.assertEqual(check_arrangement(chart, row) is None, fits(chart, row))

    def test_wrong_shape(self):
        for value in NOT_ARRANGEMENTS:
            self.assertEqual(check_arrangement(CHART, value), ("shape",))

    def test_first_wrong_person(self):
        for value in NOT_PEOPLE[1:]:
            self.assertEqual(check_arrangement(CHART, (1, None, value, value, 3, 1)), ("person", 2))
            self.assertEqual(check_arrangement((None,), (value,)), ("person", 0))

    def test_first_who_holds_an_earlier_post(self):
        self.assertEqual(check_arrangement(CHART, (1, 2, 3, 4, 3, 1)), ("twice", 4))
        self.assertEqual(check_arrangement(CHART, (1, 1, 1, 1, 1, 1)), ("twice", 1))
        self.assertEqual(check_arrangement(CHART, (0, 2, 3, 4, None, 0)), ("twice", 5))

    def test_first_wrong_order(self):
        self.assertEqual(check_arrangement(CHART, (2, 1, 3, None, None, None)), ("order", 1))
        self.assertEqual(check_arrangement(CHART, (1, 4, 3, 5, 2, 0)), ("order", 4))
        self.assertEqual(check_arrangement(CHART, (1, None, 3, None, 4, None)), ("order", 4))
        self.assertEqual(check_arrangement(CHART, (None, 1, 2, 3, 4, 5)), ("order", 1))
        self.assertEqual(check_arrangement(CHART, (None, None, None, None, None, 0)), ("order", 5))
        self.assertEqual(check_arrangement((None, 0), (1, 0)), ("order", 1))

    def test_reasons_in_their_order(self):
        self.assertEqual(check_arrangement(CHART, (2, 1, True)), ("shape",))
        self.assertEqual(check_arrangement(CHART, (2, 1, 1, 1, 1, -1)), ("person", 5))
        self.assertEqual(check_arrangement(CHART, (2, 1, 3, 4, 5, 2)), ("twice", 5))

    def test_wrong_chart(self):
        for chart in BAD_CHARTS:
            for value in (None, ARRANGEMENT):
                with self.assertRaises(InvalidChart) as caught:
                    check_arrangement(chart, value)
                self.assertEqual(caught.exception.reason, check_chart(chart))

    def test_large(self):
        line = (None,) + tuple(range(999))
        row = tuple(range(10 ** 17, 10 ** 17 + 1000))
        self.assertIsNone(check_arrangement(line, row))
        self.assertIsNone(check_arrangement((None,) + (0,) * 999, row))
        self.assertEqual(check_arrangement(line, row[:-1] + (row[0],)), ("twice", 999))
        self.assertEqual(check_arrangement(line, row[:-1] + (0,)), ("order", 999))


class PostsOfPeople(unittest.TestCase):
    def test_post_of(self):
        self.assertEqual([post_of(CHART, ARRANGEMENT, k) for k in (1, 3, 6, 0, 7)], [0, 4, 5, None, None])
        self.assertEqual([post_of((None,), (0,), 0), post_of((None,), (None,), 0)], [0, None])
        self.assertIsNone(post_of(CHART, EMPTY, 10 ** 18))

    def test_post_of_small_cases(self):
        for chart, row in small_cases():
            for person in range(5):
                expected = [k for k in range(len(row)) if row[k] == person]
                self.assertEqual(post_of(chart, row, person), expected[0] if expected else None)

    def test_open_posts(self):
        self.assertEqual(open_posts(CHART, HALF_EMPTY), [3, 4])
        self.assertEqual(open_posts(CHART, EMPTY), [0])
        self.assertEqual(open_posts(CHART, ARRANGEMENT), [])
        self.assertEqual(open_posts(CHART, (0, None, 1, None, None, None)), [1, 5])
        self.assertEqual([open_posts((None,), (None,)), open_posts((None,), (0,))], [[0], []])

    def test_result_is_new(self):
        open_posts(CHART, HALF_EMPTY).append(9)
        self.assertEqual(open_posts(CHART, HALF_EMPTY), [3, 4])

    def test_post_of_nobody(self):
        for person in NOT_PEOPLE:
            with self.assertRaises(InvalidPerson) as caught:
                post_of(CHART, ARRANGEMENT, person)
            self.assertIs(caught.exception.person, person)


class Leave(unittest.TestCase):
    def test_document(self):
        self.assertEqual(leave(CHART, ARRANGEMENT, 1), (2, 3, 4, 5, None, 6))
        self.assertEqual(leave(CHART, ARRANGEMENT, 1, 2), HALF_EMPTY)

    def test_nobody_and_everybody(self):
        self.assertIs(leave(CHART, ARRANGEMENT), ARRANGEMENT)
        self.assertEqual(leave(CHART, EMPTY), EMPTY)
        for order in permutations(ARRANGEMENT):
            self.assertEqual(leave(CHART, ARRANGEMENT, *order), EMPTY)
        self.assertEqual(leave((None,), (0,), 0), (None,))

    def test_several_people_in_different_orders(self):
        for chart, row in small_cases():
            people = people_of(row)
            for size in range(len(people) + 1):
                for order in permutations(people, size):
                    self.assertEqual(leave(chart, row, *order), remaining(chart, row, order))

    def test_limits(self):
        for seed in range(20):
            chart = random_chart(seed, 40)
            row = random_arrangement(seed, chart, empty=seed % 5)
            people = people_of(row)[::2]
            self.assertEqual(leave(chart, row, *people), remaining(chart, row, people))
            self.assertEqual(leave(chart, row, *people[::-1]), remaining(chart, row, people))

    def test_first_wrong_person(self):
        for person in (*NOT_PEOPLE, 7, 0, 10 ** 18):
            with self.assertRaises(InvalidPerson) as caught:
                leave(CHART, ARRANGEMENT, 2, person, -5, 2)
            self.assertIs(caught.exception.person, person)

    def test_somebody_twice(self):
        for people in ((3, 3, 9), (1, 3, 3, None), (3, 1, 2, 3)):
            with self.assertRaises(InvalidPerson) as caught:
                leave(CHART, ARRANGEMENT, *people)
            self.assertEqual(caught.exception.person, 3)


class Chain(unittest.TestCase):
    def test_document(self):
        self.assertEqual(list(chain(CHART, ARRANGEMENT, 1)), [(2, 1, 0), (3, 4, 1)])

    def test_nobody_moves(self):
        self.assertEqual(list(chain(CHART, ARRANGEMENT, 6)), [])
        self.assertEqual(list(chain((None,), (0,), 0)), [])

    def test_small_cases(self):
        for chart, row in small_cases():
            for person in people_of(row):
                moves = list(chain(chart, row, person))
                self.assertEqual(play_moves(row, person, moves), remaining(chart, row, [person]))
                vacant = row.index(person)
                for mover, old_post, new_post in moves:
                    self.assertEqual((new_post, chart[old_post], row[old_post]), (vacant, vacant, mover))
                    vacant = old_post

    def test_it_is_an_iterator_that_can_stop_early(self):
        moves = chain(CHART, ARRANGEMENT, 1)
        self.assertEqual(next(moves), (2, 1, 0))
        other = chain(CHART, ARRANGEMENT, 1)
        self.assertEqual(list(other), [(2, 1, 0), (3, 4, 1)])
        self.assertEqual(list(moves), [(3, 4, 1)])
        self.assertEqual(list(moves), [])

    def test_long_chain(self):
        line = (None,) + tuple(range(39))
        row = tuple(range(10 ** 17, 10 ** 17 + 40))
        self.assertEqual(list(chain(line, row, row[0])), [(row[k], k, k - 1) for k in range(1, 40)])

    def test_errors_only_when_iteration_begins(self):
        for arguments in (((), ARRANGEMENT, 1), (CHART, (), 1), (CHART, ARRANGEMENT, 7), (CHART, ARRANGEMENT, None)):
            moves = chain(*arguments)
            with self.assertRaises((InvalidChart, InvalidArrangement, InvalidPerson)):
                next(moves)

    def test_wrong_person(self):
        for person in (*NOT_PEOPLE, 0, 7):
            with self.assertRaises(InvalidPerson) as caught:
                list(chain(CHART, ARRANGEMENT, person))
            self.assertIs(caught.exception.person, person)


def play_moves(row, person, moves):
    holders = list(row)
    holders[holders.index(person)] = None
    for mover, old_post, new_post in moves:
        holders[old_post], holders[new_post] = None, mover
    return tuple(holders)


class Join(unittest.TestCase):
    def test_document(self):
        self.assertEqual(join(CHART, (2, 3, 4, 5, None, 6), 1, 4), ARRANGEMENT)

    def test_where_the_new_person_comes_to_stand(self):
        row = (2, 5, 4, 8, None, 6)
        self.assertEqual(join(CHART, row, 0, 4), (0, 2, 4, 8, 5, 6))
        self.assertEqual(join(CHART, row, 3, 4), (2, 3, 4, 8, 5, 6))
        self.assertEqual(join(CHART, row, 9, 4), (2, 5, 4, 8, 9, 6))
        self.assertEqual(join(CHART, EMPTY, 0, 0), (0,) + EMPTY[1:])
        self.assertEqual(join((None,), (None,), 10 ** 18 - 1, 0), (10 ** 18 - 1,))

    def test_it_undoes_leaving(self):
        for chart, row in small_cases():
            for person in people_of(row):
                after = leave(chart, row, person)
                moves = list(chain(chart, row, person))
                vacant = moves[-1][1] if moves else row.index(person)
                self.assertEqual(join(chart, after, person, vacant), row)

    def test_leaving_undoes_it(self):
        for chart, row in small_cases():
            for post in open_posts(chart, row):
                for person in range(-1, 5):
                    if person >= 0 and person not in row:
                        after = join(chart, row, person, post)
                        self.assertTrue(fits(chart, after))
                        self.assertEqual(remaining(chart, after, [person]), row)
                        changed = [k for k in range(len(row)) if row[k] != after[k]]
                        self.assertLessEqual(set(changed), set(climb(chart, post)))
                        self.assertIsNotNone(after[post])

    def test_all_forty_posts(self):
        chart = random_chart(3, 40)
        full = random_arrangement(3, chart)
        row = (None,) * 40
        for post in range(40):
            row = join(chart, row, full[post], post)
        self.assertEqual(people_of(row), people_of(full))
        self.assertEqual(row, full)

    def test_wrong_person(self):
        for person in (*NOT_PEOPLE, 3, 4, 5, 6):
            for post in (3, 0, "x"):
                with self.assertRaises(InvalidPerson) as caught:
                    join(CHART, HALF_EMPTY, person, post)
                self.assertIs(caught.exception.person, person)

    def test_wrong_post(self):
        for post in (*NOT_WHOLE, -1, -3, 0, 1, 2, 5, 6, 10 ** 899):
            with self.assertRaises(InvalidPost) as caught:
                join(CHART, HALF_EMPTY, 1, post)
            self.assertIs(caught.exception.post, post)

    def test_post_below_an_empty_one(self):
        for row, post in ((EMPTY, 1), (EMPTY, 5), ((3, None, 4, None, None, None), 3)):
            with self.assertRaises(InvalidPost) as caught:
                join(CHART, row, 7, post)
            self.assertEqual(caught.exception.post, post)


class Reduced(unittest.TestCase):
    def test_document(self):
        self.assertEqual(reduced(CHART, ARRANGEMENT, [6, 5, 4, 3]), HALF_EMPTY)

    def test_nobody_and_everybody_remains(self):
        self.assertEqual(reduced(CHART, ARRANGEMENT, []), EMPTY)
        self.assertEqual(reduced(CHART, ARRANGEMENT, [3, 1, 2, 6, 5, 4]), ARRANGEMENT)
        self.assertEqual(reduced(CHART, EMPTY, []), EMPTY)
        self.assertEqual([reduced((None,), (0,), [0]), reduced((None,), (0,), [])], [(0,), (None,)])

    def test_small_cases(self):
        for chart, row in small_cases():
            people = people_of(row)
            for size in range(len(people) + 1):
                for chosen in combinations(people, size):
                    leavers = [person for person in people if person not in chosen]
                    self.assertEqual(reduced(chart, row, list(chosen)), remaining(chart, row, leavers))
                    self.assertEqual(reduced(chart, row, list(chosen)[::-1]), highest_free(chart, row, chosen))

    def test_limits(self):
        for seed in range(20):
            chart = random_chart(seed, 40)
            row = random_arrangement(seed, chart, empty=seed % 3)
            chosen = people_of(row)[::-3]
            self.assertEqual(reduced(chart, row, chosen), highest_free(chart, row, chosen))

    def test_arguments_are_not_changed(self):
        people = [6, 5, 4, 3]
        reduced(CHART, ARRANGEMENT, people)
        self.assertEqual(people, [6, 5, 4, 3])

    def test_not_a_list(self):
        for people in NOT_LISTS:
            with self.assertRaises(InvalidPeople) as caught:
                reduced(CHART, ARRANGEMENT, people)
            self.assertIsNone(caught.exception.index)

    def test_first_wrong_item(self):
        for item in (*NOT_PEOPLE, 0, 7, 3):
            with self.assertRaises(InvalidPeople) as caught:
                reduced(CHART, ARRANGEMENT, [3, 1, item, None, 1])
            self.assertEqual(caught.exception.index, 2)
        for people in ([9], [None] * 200000):
            with self.assertRaises(InvalidPeople) as caught:
                reduced(CHART, ARRANGEMENT, people)
            self.assertEqual(caught.exception.index, 0)


def highest_free(chart, row, people):
    """What remains, as the note in point 25 tells it."""
    found = [None] * len(chart)
    for person in sorted(people):
        path = climb(chart, row.index(person))[::-1]
        found[[k for k in path if found[k] is None][0]] = person
    return tuple(found)


class Errors(unittest.TestCase):
    CALLS = (
        (post_of, 1), (post_of, None), (open_posts,), (leave,), (leave, 1), (leave, None, None), (join, 7, 4),
        (join, None, None), (reduced, [1]), (reduced, None), (reduced, [None]))

    def call(self, ask, chart, row, *rest):
        result = ask(chart, row, *rest)
        return list(result) if ask is chain else result

    def test_wrong_chart_comes_first(self):
        for chart in BAD_CHARTS:
            for row in (ARRANGEMENT, None):
                for ask, *rest in (*self.CALLS, (chain, 1), (chain, None)):
                    with self.assertRaises(InvalidChart) as caught:
                        self.call(ask, chart, row, *rest)
                    self.assertEqual(caught.exception.reason, check_chart(chart))

    def test_wrong_arrangement_comes_second(self):
        rows = (*NOT_ARRANGEMENTS, (1, 2, 4, 5, 3, "6"), (1, 2, 4, 5, 3, 1), (2, 1, 4, 5, 3, 6), (None, 1) + EMPTY[2:])
        for row in rows:
            for ask, *rest in (*self.CALLS, (chain, 1), (chain, None)):
                with self.assertRaises(InvalidArrangement) as caught:
                    self.call(ask, CHART, row, *rest)
                self.assertEqual(caught.exception.reason, check_arrangement(CHART, row))

    def test_by_name(self):
        self.assertIsNone(check_arrangement(chart=CHART, value=ARRANGEMENT))
        self.assertEqual(post_of(chart=CHART, arrangement=ARRANGEMENT, person=6), 5)
        self.assertEqual(open_posts(chart=CHART, arrangement=HALF_EMPTY), [3, 4])
        self.assertEqual(leave(chart=CHART, arrangement=HALF_EMPTY), HALF_EMPTY)
        self.assertEqual(list(chain(chart=CHART, arrangement=ARRANGEMENT, person=2)), [(3, 4, 1)])
        self.assertEqual(join(chart=CHART, arrangement=HALF_EMPTY, person=9, post=3), (3, 5, 4, 9, None, 6))
        self.assertEqual(reduced(chart=CHART, arrangement=ARRANGEMENT, people=[6]), (6,) + EMPTY[1:])


if __name__ == "__main__":
    unittest.main()
