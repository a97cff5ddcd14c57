"""Points 35 to 39: departures that bring people to given posts."""

import unittest
from itertools import combinations, islice
from math import comb
from random import Random

from movingup.arrangements import check_arrangement
from movingup.charts import check_chart, path_to
from movingup.errors import (
    IndexTooLarge, InvalidArrangement, InvalidChart, InvalidNumber, InvalidPeople, InvalidPrices, InvalidWishes)
from movingup.wishes import (
    check_wishes, cheapest_leavers, count_leavers, each_leavers, fewest_leavers, leavers_at)
from oracle import (
    ARRANGEMENT, BAD_CHARTS, CHART, HALF_EMPTY, NOT_ARRANGEMENTS, NOT_PEOPLE, NOT_WHOLE,
    climb, medium_cases, people_of, random_arrangement, random_chart, remaining, small_cases, subsets)

PRICES = {1: 7, 2: 5, 3: 4, 4: 0, 5: 0, 6: 0}
FORTY_LINE = (None,) + tuple(range(39))
FORTY_STAR = (None,) + (0,) * 39
THREE_LINES = (None, 0, 0, 0) + tuple(range(1, 37))
FORTY_PEOPLE = tuple(range(10 ** 17, 10 ** 17 + 40))


def all_wishes(chart, row):
    """All valid wishes of a small arrangement, with one, two and three items."""
    for size in (1, 2, 3):
        for chosen in combinations(people_of(row), size):
            found = [[]]
            for person in chosen:
                found = [wishes + [(person, post)] for wishes in found for post in climb(chart, row.index(person))]
            yield from found


def fulfilled(rows, wishes, staying):
    """All sets that fulfil wishes, of all that are tried, by their sizes and in order."""
    wished = [person for person, _ in wishes]
    return [leavers for leavers, row in rows
            if not set(leavers) & {*wished, *staying} and all(row[post] == person for person, post in wishes)]


def tried(chart, row):
    return [(leavers, remaining(chart, row, leavers)) for leavers in subsets(people_of(row))]


def cases():
    """Charts, arrangements, wishes, people who have to stay, and all sets that do it."""
    for chart, row in small_cases():
        rows = tried(chart, row)
        for wishes in all_wishes(chart, row):
            for staying in subsets(people_of(row))[:4]:
                yield chart, row, wishes, tuple(staying[::-1]), fulfilled(rows, wishes, staying)
    for chart, row in medium_cases():
        rows = tried(chart, row)
        for k, wishes in enumerate(list(all_wishes(chart, row))[::4]):
            staying = (k % 6,) if k % 3 == 0 else ()
            yield chart, row, wishes, staying, fulfilled(rows, wishes, staying)


class CheckWishes(unittest.TestCase):
    def test_valid(self):
        for value in ([(1, 0)], [(6, 5)], [(6, 2)], [(3, 1), (5, 1)], [(1, 0), (2, 0), (3, 4)], [(2, 1), (4, 2), (6, 0)]):
            self.assertIsNone(check_wishes(CHART, ARRANGEMENT, value))
        self.assertIsNone(check_wishes((None,), (0,), [(0, 0)]))

    def test_shape(self):
        wrong = (None, True, 3, "", "ab", (), ((5, 1),), {}, {5: 1}, [], [None], [(5, 1)] * 4, [[5, 1]], [(5,)],
                 [(5, 1, 0)], [(5, 1), ()], [(5, 1), "ab"], [(7, 1), None], [5, 1], [(5, 9), (6, 5), 0])
        for value in wrong:
            self.assertEqual(check_wishes(CHART, ARRANGEMENT, value), ("shape",))

    def test_person(self):
        for person in (*NOT_PEOPLE, 0, 7, 10 ** 18):
            self.assertEqual(check_wishes(CHART, ARRANGEMENT, [(person, 0)]), ("person", 0))
            self.assertEqual(check_wishes(CHART, ARRANGEMENT, [(2, 0), (person, 99), (1, 0)]), ("person", 1))
        self.assertEqual(check_wishes(CHART, ARRANGEMENT, [(3, 0), (3, 0)]), ("person", 1))
        self.assertEqual(check_wishes(CHART, ARRANGEMENT, [(2, 0), (3, 0), (2, 0)]), ("person", 2))
        self.assertEqual(check_wishes(CHART, (None,) * 6, [(0, 0)]), ("person", 0))

    def test_post(self):
        for post in (*NOT_WHOLE, -1, 2, 3, 5, 6, 10 ** 899):
            self.assertEqual(check_wishes(CHART, ARRANGEMENT, [(3, post)]), ("post", 0))
            self.assertEqual(check_wishes(CHART, ARRANGEMENT, [(2, 1), (3, post), (0, 0)]), ("post", 1))
        self.assertEqual(check_wishes(CHART, ARRANGEMENT, [(2, 4)]), ("post", 0))

    def test_all_posts_of_small_cases(self):
        for chart, row in small_cases():
            for person in people_of(row):
                for post in range(5):
                    valid = post in climb(chart, row.index(person))
                    self.assertEqual(check_wishes(chart, row, [(person, post)]), None if valid else ("post", 0))

    def test_errors(self):
        for chart in BAD_CHARTS:
            for row in (ARRANGEMENT, None):
                with self.assertRaises(InvalidChart) as caught:
                    check_wishes(chart, row, None)
                self.assertEqual(caught.exception.reason, check_chart(chart))
        for row in (*NOT_ARRANGEMENTS, (2, 1, 4, 5, 3, 6)):
            with self.assertRaises(InvalidArrangement) as caught:
                check_wishes(CHART, row, None)
            self.assertEqual(caught.exception.reason, check_arrangement(CHART, row))


class Document(unittest.TestCase):
    def test_examples(self):
        self.assertEqual(count_leavers(CHART, ARRANGEMENT, [(5, 1)], 2), 3)
        self.assertEqual(leavers_at(CHART, ARRANGEMENT, [(5, 1)], 2, 1), [1, 3])
        self.assertEqual(fewest_leavers(CHART, ARRANGEMENT, [(3, 0), (6, 2)]), [1, 2, 4])
        self.assertEqual(cheapest_leavers(CHART, ARRANGEMENT, [(5, 1)], PRICES), (9, [2, 3]))
        self.assertEqual(cheapest_leavers(CHART, ARRANGEMENT, [(5, 1)], PRICES, staying=(3,)), (12, [1, 2]))

    def test_by_name(self):
        asked = {"chart": CHART, "arrangement": ARRANGEMENT, "wishes": [(5, 1)], "staying": (3,)}
        self.assertEqual(count_leavers(size=2, **asked), 1)
        self.assertEqual(leavers_at(size=2, index=0, **asked), [1, 2])
        self.assertEqual(list(each_leavers(size=2, **asked)), [[1, 2]])
        self.assertEqual(fewest_leavers(**asked), [1, 2])
        self.assertEqual(cheapest_leavers(prices=PRICES, **asked), (12, [1, 2]))
        self.assertIsNone(check_wishes(chart=CHART, arrangement=ARRANGEMENT, value=[(5, 1)]))

    def test_staying_is_passed_by_name_only(self):
        with self.assertRaises(TypeError):
            fewest_leavers(CHART, ARRANGEMENT, [(5, 1)], ())


class SmallCases(unittest.TestCase):
    def test_sets_of_each_size(self):
        for chart, row, wishes, staying, found in cases():
            for size in range(len(people_of(row)) + 2):
                sets = [leavers for leavers in found if len(leavers) == size]
                self.assertEqual(count_leavers(chart, row, wishes, size, staying=staying), len(sets))
                self.assertEqual(list(each_leavers(chart, row, wishes, size, staying=staying)), sets)
                for index, leavers in enumerate(sets):
                    self.assertEqual(leavers_at(chart, row, wishes, size, index, staying=staying), leavers)
                with self.assertRaises(IndexTooLarge) as caught:
                    leavers_at(chart, row, wishes, size, len(sets), staying=staying)
                self.assertEqual(caught.exception.count, len(sets))

    def test_fewest(self):
        for chart, row, wishes, staying, found in cases():
            # The sets are in the order of their sizes, those of one size in Python's order.
            self.assertEqual(fewest_leavers(chart, row, wishes, staying=staying), found[0] if found else None)

    def test_cheapest(self):
        source = Random(1)
        for chart, row, wishes, staying, found in cases():
            for top in (0, 2, 10 ** 18 - 1):
                prices = {person: source.randint(0, top) for person in people_of(row)[::-1]}
                sums = [(sum(prices[person] for person in leavers), leavers) for leavers in found]
                expected = min(sums) if sums else None
                self.assertEqual(cheapest_leavers(chart, row, wishes, prices, staying=staying), expected)

    def test_one_wish_can_always_be_fulfilled(self):
        for chart, row in small_cases():
            for person in people_of(row):
                for post in climb(chart, row.index(person)):
                    self.assertIsNotNone(fewest_leavers(chart, row, [(person, post)]))


class Edges(unittest.TestCase):
    def test_nobody_needs_to_leave(self):
        wishes = [(1, 0), (3, 4), (6, 5)]
        self.assertEqual(fewest_leavers(CHART, ARRANGEMENT, wishes), [])
        self.assertEqual(count_leavers(CHART, ARRANGEMENT, wishes, 0), 1)
        self.assertEqual(leavers_at(CHART, ARRANGEMENT, wishes, 0, 0), [])
        self.assertEqual(list(each_leavers(CHART, ARRANGEMENT, wishes, 0)), [[]])
        self.assertEqual(cheapest_leavers(CHART, ARRANGEMENT, wishes, PRICES), (0, []))

    def test_wishes_that_cannot_be_fulfilled(self):
        for wishes in ([(3, 0), (5, 0)], [(2, 0), (3, 0)], [(2, 1), (3, 1)], [(1, 0), (2, 0), (6, 5)]):
            self.assertIsNone(check_wishes(CHART, ARRANGEMENT, wishes))
            self.assertIsNone(fewest_leavers(CHART, ARRANGEMENT, wishes))
            self.assertIsNone(cheapest_leavers(CHART, ARRANGEMENT, wishes, PRICES))
            for size in range(8):
                self.assertEqual(count_leavers(CHART, ARRANGEMENT, wishes, size), 0)
                self.assertEqual(list(each_leavers(CHART, ARRANGEMENT, wishes, size)), [])

    def test_people_who_have_to_stay(self):
        self.assertIsNone(fewest_leavers(CHART, ARRANGEMENT, [(2, 0)], staying=(1,)))
        self.assertIsNone(cheapest_leavers(CHART, ARRANGEMENT, [(2, 0)], PRICES, staying=(1,)))
        self.assertEqual(count_leavers(CHART, ARRANGEMENT, [(2, 0)], 1, staying=(1,)), 0)
        # A wished person may be among them: that changes nothing.
        self.assertEqual(fewest_leavers(CHART, ARRANGEMENT, [(2, 0)], staying=(2, 6)), [1])
        self.assertEqual(list(each_leavers(CHART, ARRANGEMENT, [(2, 0)], 2, staying=(6, 3, 4))), [[1, 5]])
        everybody = (6, 5, 4, 3, 2, 1)
        self.assertEqual(fewest_leavers(CHART, ARRANGEMENT, [(2, 1)], staying=everybody), [])
        self.assertIsNone(fewest_leavers(CHART, ARRANGEMENT, [(2, 0)], staying=everybody))

    def test_more_people_than_there_are(self):
        for size in (6, 7, 41, 10 ** 899):
            self.assertEqual(count_leavers(CHART, ARRANGEMENT, [(2, 0)], size), 0)
            self.assertEqual(list(each_leavers(CHART, ARRANGEMENT, [(2, 0)], size)), [])
            with self.assertRaises(IndexTooLarge) as caught:
                leavers_at(CHART, ARRANGEMENT, [(2, 0)], size, 0)
            self.assertEqual(caught.exception.count, 0)
        self.assertEqual(list(each_leavers(CHART, ARRANGEMENT, [(2, 0)], 5)), [[1, 3, 4, 5, 6]])

    def test_chart_of_one_post(self):
        self.assertEqual(count_leavers((None,), (0,), [(0, 0)], 0), 1)
        self.assertEqual(count_leavers((None,), (0,), [(0, 0)], 1), 0)
        self.assertEqual(fewest_leavers((None,), (0,), [(0, 0)]), [])
        self.assertEqual(cheapest_leavers((None,), (0,), [(0, 0)], {0: 0}), (0, []))

    def test_sets_with_the_same_sum(self):
        free = dict.fromkeys(ARRANGEMENT, 0)
        self.assertEqual(cheapest_leavers(CHART, ARRANGEMENT, [(6, 2)], free), (0, [1, 2, 3]))
        self.assertEqual(cheapest_leavers(CHART, ARRANGEMENT, [(1, 0)], free), (0, []))
        self.assertEqual(cheapest_leavers(CHART, ARRANGEMENT, [(5, 1)], {**free, 3: 1}), (0, [1, 2]))
        self.assertEqual(cheapest_leavers(CHART, ARRANGEMENT, [(5, 1)], {**free, 2: 1}), (0, [1, 3]))
        self.assertEqual(cheapest_leavers(CHART, ARRANGEMENT, [(5, 1)], dict.fromkeys(ARRANGEMENT, 1)), (2, [1, 2]))

    def test_arguments_and_results_are_independent(self):
        wishes, prices = [(5, 1)], dict(PRICES)
        for ask, rest in (
                (count_leavers, (2,)), (leavers_at, (2, 0)), (fewest_leavers, ()), (cheapest_leavers, (prices,))):
            ask(CHART, ARRANGEMENT, wishes, *rest, staying=(4,))
        self.assertEqual([wishes, prices], [[(5, 1)], PRICES])
        for leavers in each_leavers(CHART, ARRANGEMENT, wishes, 2):
            leavers.append(9)
        self.assertEqual(list(each_leavers(CHART, ARRANGEMENT, wishes, 2)), [[1, 2], [1, 3], [2, 3]])
        cheapest_leavers(CHART, ARRANGEMENT, wishes, prices)[1].append(9)
        self.assertEqual(cheapest_leavers(CHART, ARRANGEMENT, wishes, prices), (9, [2, 3]))

    def test_a_generator_that_is_only_begun(self):
        first = each_leavers(CHART, ARRANGEMENT, [(5, 1)], 2)
        self.assertEqual(next(first), [1, 2])
        self.assertEqual(list(each_leavers(CHART, ARRANGEMENT, [(5, 1)], 2)), [[1, 2], [1, 3], [2, 3]])
        self.assertEqual(list(first), [[1, 3], [2, 3]])
        self.assertEqual(list(first), [])


class Limits(unittest.TestCase):
    def test_line(self):
        # Who comes d posts up on a line needs d of those above to leave, whoever else leaves.
        for deep, goal in ((39, 20), (39, 0), (30, 30), (20, 5)):
            wishes = [(FORTY_PEOPLE[deep], goal)]
            for size in (0, 5, 15, 19, 25, 39, 40):
                others = size - (deep - goal)
                expected = comb(deep, goal) * comb(39 - deep, others) if others >= 0 else 0
                self.assertEqual(count_leavers(FORTY_LINE, FORTY_PEOPLE, wishes, size), expected)

    def test_star(self):
        # The most senior of those who remain gets the head.
        for k in (0, 1, 17, 39):
            wishes = [(FORTY_PEOPLE[k], 0)]
            for size in (0, 1, 17, 20, 39, 40):
                expected = comb(39 - k, size - k) if size >= k else 0
                self.assertEqual(count_leavers(FORTY_STAR, FORTY_PEOPLE, wishes, size), expected)
            self.assertEqual(fewest_leavers(FORTY_STAR, FORTY_PEOPLE, wishes), list(FORTY_PEOPLE[:k]))

    def test_three_wishes(self):
        people = list(FORTY_PEOPLE)
        for goals in ((37, 38, 39), (25, 29, 36), (16, 23, 18), (4, 5, 6), (1, 2, 3), (0, 2, 3)):
            wishes = [(people[37 + k], goal) for k, goal in enumerate(goals)]
            wishes = [(person, path_to(THREE_LINES, people.index(person))[(goal + 2) // 3])
                      for person, goal in wishes]
            self.check_sets(THREE_LINES, FORTY_PEOPLE, wishes)

    def test_random_charts(self):
        source = Random(7)
        for seed in range(12):
            chart = random_chart(seed, 40)
            row = random_arrangement(seed, chart, empty=seed % 3)
            chosen = sorted(source.sample(people_of(row), 1 + seed % 3))
            leavers = [person for person in people_of(row) if person not in chosen and source.randrange(3) > 0]
            after = remaining(chart, row, leavers)
            staying = tuple(source.sample([person for person in people_of(row) if person not in leavers], 2))
            self.check_sets(chart, row, [(person, after.index(person)) for person in chosen], staying, len(leavers))

    def check_sets(self, chart, row, wishes, staying=(), size=None):
        fewest = fewest_leavers(chart, row, wishes, staying=staying)
        if fewest is None:
            self.assertIsNone(size)
            return
        self.check_set(chart, row, wishes, staying, fewest)
        for smaller in range(len(fewest)):
            self.assertEqual(count_leavers(chart, row, wishes, smaller, staying=staying), 0)
        size = len(fewest) + 2 if size is None else size
        count = count_leavers(chart, row, wishes, size, staying=staying)
        first = list(islice(each_leavers(chart, row, wishes, size, staying=staying), 50))
        self.assertEqual(len(first), min(50, count))
        self.assertEqual(first, sorted(first))
        for index in range(0, len(first), 7):
            self.assertEqual(leavers_at(chart, row, wishes, size, index, staying=staying), first[index])
        for index in (0, count // 3, count - 1):
            if 0 <= index < count:
                leavers = leavers_at(chart, row, wishes, size, index, staying=staying)
                self.check_set(chart, row, wishes, staying, leavers)
        prices = {person: (person * 7919) % 10 ** 18 for person in people_of(row)}
        total, leavers = cheapest_leavers(chart, row, wishes, prices, staying=staying)
        self.check_set(chart, row, wishes, staying, leavers)
        self.assertEqual(total, sum(prices[person] for person in leavers))
        for other in [fewest, *first]:
            self.assertLessEqual(total, sum(prices[person] for person in other))
        ones = dict.fromkeys(people_of(row), 1)
        self.assertEqual(cheapest_leavers(chart, row, wishes, ones, staying=staying), (len(fewest), fewest))

    def check_set(self, chart, row, wishes, staying, leavers):
        self.assertEqual(leavers, sorted(set(leavers)))
        self.assertFalse(set(leavers) & {*staying, *[person for person, _ in wishes]})
        after = remaining(chart, row, leavers)
        self.assertEqual([(after[post], post) for _, post in wishes], wishes)

    def test_all_sizes_together(self):
        # Each set of leavers without the wished person brings this person to one post of the path.
        chart = random_chart(5, 40)
        row = random_arrangement(5, chart)
        for person in people_of(row)[9::10]:
            for size in (0, 3, 20, 39):
                counts = [count_leavers(chart, row, [(person, post)], size) for post in climb(chart, row.index(person))]
                self.assertEqual(sum(counts), comb(39, size))

    def test_a_generator_over_very_many_sets(self):
        sets = each_leavers(FORTY_STAR, FORTY_PEOPLE, [(FORTY_PEOPLE[0], 0)], 20)
        self.assertEqual(next(sets), list(FORTY_PEOPLE[1:21]))
        self.assertEqual(next(sets), list(FORTY_PEOPLE[1:20] + FORTY_PEOPLE[21:22]))
        last = leavers_at(FORTY_STAR, FORTY_PEOPLE, [(FORTY_PEOPLE[0], 0)], 20, comb(39, 20) - 1)
        self.assertEqual(last, list(FORTY_PEOPLE[20:]))


class Errors(unittest.TestCase):
    BAD_STAYING = (None, True, 3, "", "ab", [], [3], {}, {3: 3})
    BAD_PRICES = (None, True, 0, "", (), [], [7] * 6, {}, {1: 7}, {**PRICES, 7: 0}, {**PRICES, "1": 0}, {**PRICES, None: 0})

    def calls(self, chart, row, wishes, staying, size=None, index=None, prices=None):
        """Each function with these arguments; what they need besides may be wrong, too."""
        yield lambda: count_leavers(chart, row, wishes, size, staying=staying)
        yield lambda: leavers_at(chart, row, wishes, size, index, staying=staying)
        yield lambda: next(each_leavers(chart, row, wishes, size, staying=staying))
        yield lambda: fewest_leavers(chart, row, wishes, staying=staying)
        yield lambda: cheapest_leavers(chart, row, wishes, prices, staying=staying)

    def check(self, error, field, value, calls):
        for call in calls:
            with self.assertRaises(error) as caught:
                call()
            self.assertEqual(getattr(caught.exception, field), value)

    def test_chart_first(self):
        for chart in BAD_CHARTS:
            for rest in ((ARRANGEMENT, [(5, 1)], ()), (None, None, None)):
                self.check(InvalidChart, "reason", check_chart(chart), self.calls(chart, *rest))

    def test_arrangement_second(self):
        for row in (*NOT_ARRANGEMENTS, (1, 2, 4, 5, 3, 4), (1, 2, 4, 5, 3, 0), (1, 2, 4, 5, True, 6)):
            for rest in (([(5, 1)], ()), (None, None)):
                self.check(InvalidArrangement, "reason", check_arrangement(CHART, row), self.calls(CHART, row, *rest))

    def test_wishes_third(self):
        for wishes in (None, [], ((5, 1),), [(5, 1)] * 4, [(7, 0)], [(5, 1), (5, 1)], [(5, 4)], [(5, 1), (6, 1)], {}):
            reason = check_wishes(CHART, ARRANGEMENT, wishes)
            for staying in ((), None, (7,)):
                self.check(InvalidWishes, "reason", reason, self.calls(CHART, ARRANGEMENT, wishes, staying))

    def test_staying_fourth(self):
        for staying in self.BAD_STAYING:
            self.check(InvalidPeople, "index", None, self.calls(CHART, ARRANGEMENT, [(5, 1)], staying))
        for item in (*NOT_PEOPLE, 0, 7, 3):
            staying = (3, 5, item, None, 3)
            self.check(InvalidPeople, "index", 2, self.calls(CHART, ARRANGEMENT, [(5, 1)], staying))

    def test_size_fifth(self):
        for size in (*NOT_PEOPLE,):
            calls = list(self.calls(CHART, ARRANGEMENT, [(5, 1)], (), size))[:3]
            self.check(InvalidNumber, "number", size, calls)

    def test_index_last(self):
        for index in (*NOT_PEOPLE, 3, 4, 10 ** 899):
            with self.assertRaises(IndexTooLarge) as caught:
                leavers_at(CHART, ARRANGEMENT, [(5, 1)], 2, index)
            self.assertEqual(caught.exception.count, 3)

    def test_prices_without_the_right_keys(self):
        wrong = [*self.BAD_PRICES]
        wrong.append({True: 7, 2: 5, 3: 4, 4: 0, 5: 0, 6: 0})
        wrong.append({7: 7, 2: 5, 3: 4, 4: 0, 5: 0, 6: 0})
        wrong.append({(1,): 7, 2: None, 3: 4, 4: 0, 5: 0, 6: 0})
        wrong.append(dict.fromkeys(range(100000), 0))
        for prices in wrong:
            with self.assertRaises(InvalidPrices) as caught:
                cheapest_leavers(CHART, ARRANGEMENT, [(5, 1)], prices)
            self.assertIsNone(caught.exception.person)
        with self.assertRaises(InvalidPrices) as caught:
            cheapest_leavers((None,), (0,), [(0, 0)], {False: 0})
        self.assertIsNone(caught.exception.person)
        with self.assertRaises(InvalidPrices) as caught:
            cheapest_leavers(CHART, HALF_EMPTY, [(5, 1)], PRICES)
        self.assertIsNone(caught.exception.person)

    def test_most_senior_person_whose_price_does_not_fit(self):
        for price in NOT_PEOPLE:
            with self.assertRaises(InvalidPrices) as caught:
                cheapest_leavers(CHART, ARRANGEMENT, [(5, 1)], {6: None, 5: price, 1: 7, 2: 5, 3: price, 4: 0})
            self.assertEqual(caught.exception.person, 3)

    def test_a_generator_raises_when_its_iteration_begins(self):
        for arguments, error in (
                (((), ARRANGEMENT, [(5, 1)], 2), InvalidChart), ((CHART, (), [(5, 1)], 2), InvalidArrangement),
                ((CHART, ARRANGEMENT, [], 2), InvalidWishes), ((CHART, ARRANGEMENT, [(5, 1)], -1), InvalidNumber)):
            sets = each_leavers(*arguments)
            with self.assertRaises(error):
                next(sets)


if __name__ == "__main__":
    unittest.main()
