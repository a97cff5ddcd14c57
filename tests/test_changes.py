"""Points 50 to 54: plans, and the fewest people who leave and join again."""

import unittest
from itertools import combinations
from math import comb

from movingup.arrangements import check_arrangement, join, leave, open_posts, reduced
from movingup.changes import (
    check_changes, check_plan, count_changes, count_stays, fewest_changes, largest_stay, play)
from movingup.charts import check_chart
from movingup.errors import InvalidArrangement, InvalidChart, InvalidNumber, InvalidPlan, PlanBlocked
from oracle import (
    ARRANGEMENT, BAD_CHARTS, CHART, HALF_EMPTY, NOT_ARRANGEMENTS, NOT_LISTS, NOT_PEOPLE, NOT_WHOLE,
    all_arrangements, all_charts, another_arrangement, climb, people_of, random_arrangement, random_chart,
    remaining, subsets)

EMPTY = (None,) * 6
OTHER = (1, 2, 3, 4, 5, None)
FORTY_LINE = (None,) + tuple(range(39))
FORTY_STAR = (None,) + (0,) * 39
FORTY_PEOPLE = tuple(range(10 ** 17, 10 ** 17 + 40))
BAD_STEPS = (
    None, True, 0, "leave", (), [], {}, ("leave",), ("join",), ("join", 1), ("leave", 1, 0), ("join", 1, 0, 0),
    ("leave", None), ("leave", -1), ("leave", True), ("leave", "1"), ("leave", (1,)), ("leave", [1]),
    ("join", -1, 0), ("join", None, 0), ("join", False, 0), ("join", 1, None), ("join", 1, -1), ("join", 1, 6),
    ("join", 1, True), ("join", 1, "0"), ("join", 1, [0]), ["leave", 1], ["join", 1, 0], ("Leave", 1), ("", 1),
    ("join ", 1, 0), (None, 1), ([], 1), ({}, 1, 0), (1, "leave"), ("leave", 1.0))


def pairs():
    """Two arrangements of small charts, with the same people and with other ones."""
    for chart in [(None,), (None, 0), (None, 0, 0), (None, 0, 1)]:
        rows = all_arrangements(chart, range(4))
        for before in rows:
            for after in rows:
                yield chart, before, after
    for seed in range(60):
        chart = random_chart(seed % 12, 5 + seed % 4)
        before = another_arrangement(seed, chart, range(seed % 3, len(chart)))
        yield chart, before, another_arrangement(seed + 100, chart, range(len(chart) - seed // 3 % 3))


def stays(chart, before, after):
    """All sets of people for whom both arrangements are reduced to the same one."""
    both = [person for person in people_of(before) if person in after]
    found = []
    for people in subsets(both):
        if reduced(chart, before, people) == reduced(chart, after, people):
            found.append(people)
    return found


def placed(chart, before, after, people):
    """Whether people can stay, as the last part of the note in point 52 tells it."""
    taken = {}
    for person in sorted(people):
        common = [k for k in climb(chart, before.index(person)) if k in climb(chart, after.index(person))]
        free = [k for k in common if k not in taken]
        if not free:
            return False
        taken[min(free)] = person
    return True


def next_rows(chart, row, people):
    """All arrangements to which one step leads, each with the step."""
    for person in people:
        if person in row:
            yield ("leave", person), remaining(chart, row, [person])
        else:
            for post in open_posts(chart, row):
                yield ("join", person, post), join(chart, row, person, post)


def distances(chart, before, people):
    """How many steps lead to each arrangement at least, found step by step."""
    found = {before: 0}
    rows = [before]
    for row in rows:
        for _, other in next_rows(chart, row, people):
            if other not in found:
                found[other] = found[row] + 1
                rows.append(other)
    return found


class CheckPlan(unittest.TestCase):
    def test_plans(self):
        for plan in ([], [("leave", 1)], [("join", 0, 0)], [("leave", 9), ("join", 10 ** 18, 5), ("leave", 9)]):
            self.assertIsNone(check_plan(CHART, plan))

    def test_no_list(self):
        for value in NOT_LISTS + ((("leave", 1),), "leave"):
            self.assertEqual(check_plan(CHART, value), ("plan",))

    def test_first_wrong_step(self):
        for step in BAD_STEPS:
            self.assertEqual(check_plan(CHART, [step]), ("step", 0))
            self.assertEqual(check_plan(CHART, [("leave", 1), ("join", 1, 5), step, None]), ("step", 2))

    def test_posts_are_those_of_the_chart(self):
        self.assertEqual(check_plan((None,), [("join", 1, 0), ("join", 2, 1)]), ("step", 1))
        self.assertIsNone(check_plan((None, 0), [("join", 1, 0), ("join", 2, 1)]))

    def test_large(self):
        chart = random_chart(1, 1000)
        plan = [("join", k, k % 1000) if k % 3 else ("leave", k) for k in range(20000)]
        self.assertIsNone(check_plan(chart, plan))
        self.assertEqual(check_plan(chart, plan + [("join", 1, 1000)]), ("step", 20000))

    def test_wrong_chart(self):
        for chart in BAD_CHARTS:
            for value in ([], None):
                with self.assertRaises(InvalidChart) as caught:
                    check_plan(chart, value)
                self.assertEqual(caught.exception.reason, check_chart(chart))


class Play(unittest.TestCase):
    def test_plans(self):
        self.assertEqual(play(CHART, ARRANGEMENT, [("leave", 1)]), (2, 3, 4, 5, None, 6))
        self.assertEqual(play(CHART, ARRANGEMENT, [("leave", 1), ("join", 1, 4)]), ARRANGEMENT)
        self.assertEqual(play(CHART, EMPTY, [("join", 7, 0), ("join", 3, 2)]), (3, None, 7, None, None, None))
        self.assertEqual(play((None,), (None,), [("join", 5, 0), ("leave", 5)] * 1000), (None,))

    def test_no_steps(self):
        for row in (ARRANGEMENT, HALF_EMPTY, EMPTY):
            self.assertEqual(play(CHART, row, []), row)

    def test_as_leave_and_join(self):
        for seed in range(20):
            chart = random_chart(seed, 40)
            row = random_arrangement(seed, chart, empty=2)
            expected, plan = row, []
            for k in range(100):
                if k % 2:
                    person = people_of(expected)[(k * 31) % 39]
                    plan.append(("leave", person))
                    expected = leave(chart, expected, person)
                else:
                    post = open_posts(chart, expected)[0]
                    plan.append(("join", k * 10 ** 16, post))
                    expected = join(chart, expected, k * 10 ** 16, post)
            self.assertEqual(play(chart, row, plan), expected)

    def test_two_thousand_steps(self):
        plan = []
        for k in range(1000):
            plan.append(("leave", FORTY_PEOPLE[k % 40]))
            plan.append(("join", FORTY_PEOPLE[k % 40], 39))
        self.assertEqual(play(FORTY_LINE, FORTY_PEOPLE, plan), FORTY_PEOPLE)

    def test_first_step_that_is_not_possible(self):
        for step in (("leave", 1), ("leave", 9), ("join", 3, 4), ("join", 9, 0), ("join", 9, 5), ("join", 6, 2)):
            with self.assertRaises(PlanBlocked) as caught:
                play(CHART, HALF_EMPTY, [("join", 7, 3), ("leave", 7), step, step, ("leave", 8)])
            self.assertEqual(caught.exception.index, 2)
        for plan, index in (([("leave", 1), ("leave", 1)], 1), ([("join", 8, 1)], 0), ([("leave", 6), ("join", 6, 4)], 1)):
            with self.assertRaises(PlanBlocked) as caught:
                play(CHART, ARRANGEMENT, plan)
            self.assertEqual(caught.exception.index, index)
        with self.assertRaises(PlanBlocked) as caught:
            play(CHART, EMPTY, [("join", 1, 1)])
        self.assertEqual(caught.exception.index, 0)

    def test_errors_in_their_order(self):
        for plan in (None, [("leave", 1), None], [("leave", 9)]):
            for chart in BAD_CHARTS:
                for row in (ARRANGEMENT, None):
                    with self.assertRaises(InvalidChart) as caught:
                        play(chart, row, plan)
                    self.assertEqual(caught.exception.reason, check_chart(chart))
            for row in (*NOT_ARRANGEMENTS, (2, 1, 4, 5, 3, 6)):
                with self.assertRaises(InvalidArrangement) as caught:
                    play(CHART, row, plan)
                self.assertEqual(caught.exception.reason, check_arrangement(CHART, row))
        for plan in (*NOT_LISTS, [None], [("leave", 9), ("leave", -1)], [("join", 9, 0), ("join", 9, 6)]):
            with self.assertRaises(InvalidPlan) as caught:
                play(CHART, ARRANGEMENT, plan)
            self.assertEqual(caught.exception.reason, check_plan(CHART, plan))

    def test_arguments_are_not_changed(self):
        plan = [("leave", 1), ("join", 1, 4)]
        play(CHART, ARRANGEMENT, plan)
        check_changes(CHART, ARRANGEMENT, ARRANGEMENT, plan)
        self.assertEqual(plan, [("leave", 1), ("join", 1, 4)])


class Changes(unittest.TestCase):
    def test_document(self):
        self.assertEqual(len(largest_stay(CHART, ARRANGEMENT, OTHER)), 2)
        self.assertEqual(count_changes(CHART, ARRANGEMENT, (1, 2, 3, 4, 5, 6)), 6)
        self.assertIsNone(check_changes(CHART, ARRANGEMENT, (2, 3, 4, 5, None, 6), [("leave", 1)]))

    def test_stays_of_small_cases(self):
        for chart, before, after in pairs():
            found = stays(chart, before, after)
            for size in range(len(chart) + 2):
                counted = len([people for people in found if len(people) == size])
                self.assertEqual(count_stays(chart, before, after, size), counted)
            largest = largest_stay(chart, before, after)
            self.assertIn(largest, found)
            self.assertEqual(len(largest), max(map(len, found)))

    def test_the_note_in_the_document(self):
        for chart, before, after in pairs():
            both = [person for person in people_of(before) if person in after]
            self.assertEqual(stays(chart, before, after),
                             [people for people in subsets(both) if placed(chart, before, after, people)])

    def test_plans_of_small_cases(self):
        for chart, before, after in pairs():
            plan = fewest_changes(chart, before, after)
            self.assertIsNone(check_plan(chart, plan))
            self.assertEqual(play(chart, before, plan), after)
            self.assertEqual(len(plan), count_changes(chart, before, after))
            self.assertIsNone(check_changes(chart, before, after, plan))
            # Whoever can stay does not occur in some plan that leads to the other arrangement.
            moved = {step[1] for step in plan}
            staying = [person for person in people_of(before) if person not in moved]
            self.assertIn(staying, stays(chart, before, after))

    def test_no_plan_is_shorter(self):
        for chart in all_charts(3) + [(None,), (None, 0)]:
            for before in all_arrangements(chart, (0, 1, 3)):
                found = distances(chart, before, (0, 1, 2, 3))
                for after in all_arrangements(chart, (0, 1, 2, 3)):
                    self.assertEqual(count_changes(chart, before, after), found[after])

    def test_no_plan_is_shorter_on_four_posts(self):
        for chart in all_charts(4):
            for seed in range(2):
                before = another_arrangement(seed, chart, (1, 2, 3, 4))
                for after, steps in distances(chart, before, (1, 2, 3, 4)).items():
                    self.assertEqual(count_changes(chart, before, after), steps)

    def test_who_can_stay_is_who_is_not_in_some_plan(self):
        chart, people = (None, 0, 0), (0, 1, 2)
        rows = all_arrangements(chart, people)
        for before in rows:
            for size in range(4):
                for staying in combinations(people_of(before), size):
                    reached = distances(chart, before, [person for person in people if person not in staying])
                    for after in rows:
                        can = list(staying) in stays(chart, before, after)
                        self.assertEqual(after in reached, can)

    def test_two_equal_arrangements(self):
        for row in (ARRANGEMENT, HALF_EMPTY, EMPTY):
            people = people_of(row)
            self.assertEqual(largest_stay(CHART, row, row), people)
            self.assertEqual([count_changes(CHART, row, row), fewest_changes(CHART, row, row)], [0, []])
            self.assertIsNone(check_changes(CHART, row, row, []))
            self.assertEqual([count_stays(CHART, row, row, k) for k in range(8)],
                             [comb(len(people), k) for k in range(8)])

    def test_empty_arrangements(self):
        self.assertEqual(largest_stay(CHART, EMPTY, ARRANGEMENT), [])
        self.assertEqual(largest_stay(CHART, ARRANGEMENT, EMPTY), [])
        self.assertEqual(count_changes(CHART, EMPTY, ARRANGEMENT), 6)
        self.assertEqual({step[0] for step in fewest_changes(CHART, EMPTY, ARRANGEMENT)}, {"join"})
        self.assertEqual({step[0] for step in fewest_changes(CHART, ARRANGEMENT, EMPTY)}, {"leave"})
        self.assertEqual(count_stays(CHART, ARRANGEMENT, EMPTY, 0), 1)
        self.assertEqual(count_stays(CHART, ARRANGEMENT, EMPTY, 1), 0)

    def test_chart_of_one_post(self):
        self.assertEqual(fewest_changes((None,), (0,), (1,)), [("leave", 0), ("join", 1, 0)])
        self.assertEqual(largest_stay((None,), (0,), (1,)), [])
        self.assertEqual(largest_stay((None,), (0,), (0,)), [0])
        self.assertEqual([count_stays((None,), (0,), (0,), k) for k in range(3)], [1, 1, 0])

    def test_results_are_new(self):
        fewest_changes(CHART, ARRANGEMENT, OTHER).append(9)
        largest_stay(CHART, ARRANGEMENT, OTHER).append(9)
        self.assertIsNone(check_plan(CHART, fewest_changes(CHART, ARRANGEMENT, OTHER)))
        self.assertEqual(len(largest_stay(CHART, ARRANGEMENT, OTHER)), 2)
        self.assertEqual(fewest_changes(CHART, ARRANGEMENT, OTHER), fewest_changes(CHART, ARRANGEMENT, OTHER))


class CheckChanges(unittest.TestCase):
    def test_form(self):
        for claim in (*NOT_LISTS, [None], [("leave", 1), ("leave", -1)], [("leave", 9), ("join", 1, 6)],
                      [("leave", 1)] * 60000 + [None], [[]] * 200000):
            self.assertEqual(check_changes(CHART, ARRANGEMENT, OTHER, claim), ("form",))

    def test_blocked(self):
        self.assertEqual(check_changes(CHART, ARRANGEMENT, OTHER, [("leave", 7)]), ("blocked", 0))
        self.assertEqual(check_changes(CHART, ARRANGEMENT, OTHER, [("leave", 1)] * 60000), ("blocked", 1))
        plan = fewest_changes(CHART, ARRANGEMENT, OTHER)
        self.assertEqual(check_changes(CHART, ARRANGEMENT, OTHER, plan + [plan[-1]]), ("blocked", len(plan)))
        self.assertEqual(check_changes(CHART, ARRANGEMENT, ARRANGEMENT, [("join", 7, 0)]), ("blocked", 0))

    def test_end(self):
        plan = fewest_changes(CHART, ARRANGEMENT, OTHER)
        for claim in ([], plan[:-1], plan + [("leave", 1)], [("leave", 1)]):
            self.assertEqual(check_changes(CHART, ARRANGEMENT, OTHER, claim), ("end",))

    def test_length(self):
        again = [("leave", 6), ("join", 6, 5)]
        self.assertEqual(check_changes(CHART, ARRANGEMENT, ARRANGEMENT, again), ("length",))
        self.assertEqual(check_changes(CHART, ARRANGEMENT, ARRANGEMENT, again * 1000), ("length",))
        everybody = [("leave", k) for k in ARRANGEMENT] + [
            ("join", 1, 0), ("join", 2, 1), ("join", 3, 2), ("join", 4, 3), ("join", 5, 4)]
        self.assertEqual(check_changes(CHART, ARRANGEMENT, OTHER, everybody), ("length",))
        stranger = [("leave", 1), ("join", 0, 4), ("leave", 0)]
        self.assertEqual(check_changes(CHART, ARRANGEMENT, (2, 3, 4, 5, None, 6), stranger), ("length",))

    def test_another_plan_of_the_fewest_steps(self):
        after = (3, 5, 4, None, None, 6)
        for claim in ([("leave", 1), ("leave", 2)], [("leave", 2), ("leave", 1)]):
            self.assertIsNone(check_changes(CHART, ARRANGEMENT, after, claim))


class Limits(unittest.TestCase):
    def test_line_and_star(self):
        for chart in (FORTY_LINE, FORTY_STAR):
            self.assertEqual([count_stays(chart, FORTY_PEOPLE, FORTY_PEOPLE, k) for k in (0, 20, 40, 41)],
                             [1, comb(40, 20), 1, 0])
        # Around the head of a star everybody changes places: only one of them can stay, at the head.
        turned = FORTY_PEOPLE[:1] + FORTY_PEOPLE[2:] + FORTY_PEOPLE[1:2]
        self.assertEqual(len(largest_stay(FORTY_STAR, FORTY_PEOPLE, turned)), 1)
        self.assertEqual([count_stays(FORTY_STAR, FORTY_PEOPLE, turned, k) for k in (0, 1, 2)], [1, 40, 0])
        self.assertEqual(count_changes(FORTY_STAR, FORTY_PEOPLE, turned), 78)

    def test_random_charts(self):
        for seed in range(20):
            chart = random_chart(seed, 40)
            before = random_arrangement(seed, chart, empty=seed % 4)
            people = people_of(before)[seed % 3:] + list(range(seed % 2))
            after = another_arrangement(seed + 1, chart, people)
            largest = largest_stay(chart, before, after)
            self.assertTrue(placed(chart, before, after, largest))
            self.assertEqual(reduced(chart, before, largest), reduced(chart, after, largest))
            counts = [count_stays(chart, before, after, size) for size in range(42)]
            self.assertEqual([k for k in range(42) if counts[k] > 0], list(range(len(largest) + 1)))
            self.assertEqual([counts[0], counts[1]], [1, len(set(people_of(before)) & set(people))])
            pairs_that_stay = [pair for pair in combinations(people_of(before), 2)
                               if set(pair) <= set(people) and placed(chart, before, after, pair)]
            self.assertEqual(counts[2], len(pairs_that_stay))
            plan = fewest_changes(chart, before, after)
            self.assertEqual(len(plan), len(people_of(before)) + len(people) - 2 * len(largest))
            self.assertEqual(count_changes(chart, before, after), len(plan))
            self.assertEqual(play(chart, before, plan), after)
            self.assertIsNone(check_changes(chart, before, after, plan))

    def test_large_sizes(self):
        for size in (41, 10 ** 18, 10 ** 899):
            self.assertEqual(count_stays(FORTY_LINE, FORTY_PEOPLE, FORTY_PEOPLE, size), 0)


class Errors(unittest.TestCase):
    def calls(self, chart, before, after, rest):
        yield lambda: largest_stay(chart, before, after)
        yield lambda: count_changes(chart, before, after)
        yield lambda: fewest_changes(chart, before, after)
        yield lambda: check_changes(chart, before, after, rest)
        yield lambda: count_stays(chart, before, after, rest)

    def check(self, error, value, calls):
        for call in calls:
            with self.assertRaises(error) as caught:
                call()
            self.assertEqual(caught.exception.reason, value)

    def test_chart_first(self):
        for chart in BAD_CHARTS:
            for rest in ((ARRANGEMENT, OTHER, []), (None, None, None)):
                self.check(InvalidChart, check_chart(chart), self.calls(chart, *rest))

    def test_before_second_and_after_third(self):
        for row in (*NOT_ARRANGEMENTS, (1, 2, 4, 5, 3, 4), (1, 2, 4, 5, 3, 0), (1, 2, 4, 5, True, 6)):
            reason = check_arrangement(CHART, row)
            for rest in ((ARRANGEMENT, []), (None, None), ((1, 1, 1, 1, 1, 1), -1)):
                self.check(InvalidArrangement, reason, self.calls(CHART, row, *rest))
            for rest in ([], -1, None):
                self.check(InvalidArrangement, reason, self.calls(CHART, ARRANGEMENT, row, rest))

    def test_size_last(self):
        for size in (*NOT_PEOPLE, *NOT_WHOLE):
            with self.assertRaises(InvalidNumber) as caught:
                count_stays(CHART, ARRANGEMENT, OTHER, size)
            self.assertIs(caught.exception.number, size)

    def test_by_name(self):
        two = {"chart": CHART, "before": ARRANGEMENT, "after": OTHER}
        plan = fewest_changes(**two)
        self.assertIsNone(check_plan(chart=CHART, value=plan))
        self.assertEqual(play(chart=CHART, arrangement=ARRANGEMENT, plan=plan), OTHER)
        self.assertEqual([len(largest_stay(**two)), count_changes(**two), count_stays(size=2, **two) > 0], [2, 7, True])
        self.assertIsNone(check_changes(claim=plan, **two))


if __name__ == "__main__":
    unittest.main()
