"""Points 60 to 63: offices, step by step against the functions of the other modules."""

import unittest
from random import Random
from unittest.mock import ANY

from movingup import arrangements, changes
from movingup.arrangements import check_arrangement, open_posts, post_of
from movingup.charts import check_chart
from movingup.errors import (
    InvalidArrangement, InvalidChart, InvalidNumber, InvalidOrder, InvalidPeople, InvalidPerson, InvalidPlan,
    InvalidPost, MovingUpError, NothingToUndo, PlanBlocked)
from movingup.office import Office, StrictOffice
from movingup.orders import check_order, order_of
from oracle import (
    ARRANGEMENT, BAD_CHARTS, CHART, HALF_EMPTY, NOT_ARRANGEMENTS, NOT_LISTS, NOT_PEOPLE, NOT_WHOLE,
    all_charts, people_of, random_arrangement, random_chart, small_cases)

BOTH = (Office, StrictOffice)
EMPTY = (None,) * 6
ORDER = [0, 1, 4, 2, 3, 5]
PEOPLE = [1, 2, 3, 4, 5, 6]
FORTY_LINE = (None,) + tuple(range(39))
FORTY_PEOPLE = tuple(range(10 ** 17, 10 ** 17 + 40))
BAD_ROWS = (*NOT_ARRANGEMENTS, (1, 2, 4, 5, 3, 4), (1, 2, 4, 5, 3, 0), (1, 2, 4, 5, True, 6), (2, 1, 4, 5, 3, 6))
HUGE = (10 ** 900 - 1, "x" * 10000, [[]] * 200000, tuple(range(200000)), dict.fromkeys(range(9)), [[[[[[[[[[1]]]]]]]]]])


def state(office):
    """All that an office tells of itself."""
    people = range(8)
    return (
        office.chart, office.arrangement, office.people, office.head, office.log(), len(office),
        [office.at(k) for k in range(len(office) + 1)], [office.posts_of(person) for person in people],
        [person in office for person in people])


class Model:
    """An office as lists of plans and arrangements; functions of the other modules make the steps."""

    def __init__(self, chart, row, strict):
        self.chart, self.rows, self.plans, self.strict = chart, [row], [], strict

    def outcome(self, name, arguments):
        """The plan and the arrangement of a step, or the error."""
        row = self.rows[-1]
        if name == "leave":
            return [("leave", person) for person in arguments], arrangements.leave(self.chart, row, *arguments)
        if name == "admit":
            after = arrangements.join(self.chart, row, *arguments)
            if self.strict and arguments[1] != min(open_posts(self.chart, row)):
                raise InvalidPost(arguments[1])
            return [("join", *arguments)], after
        return list(arguments[0]), self.played(row, arguments[0])

    def played(self, row, plan):
        for k, (word, person, *post) in enumerate(plan):
            ready = open_posts(self.chart, row)
            may = (word == "leave") == (person in row) and set(post) <= set(ready[:1] if self.strict else ready)
            if not may:
                raise PlanBlocked(k)
            row = getattr(arrangements, word)(self.chart, row, person, *post)
        return row

    def keep(self, plan, after):
        self.plans.append(plan)
        self.rows.append(after)

    def check(self, case, office):
        case.assertIs(type(office), StrictOffice if self.strict else Office)
        case.assertEqual(office.chart, self.chart)
        case.assertEqual(office.arrangement, self.rows[-1])
        case.assertEqual(office.people, people_of(self.rows[-1]))
        case.assertEqual(office.head, self.rows[-1][0])
        case.assertEqual(len(office), len(self.plans))
        case.assertEqual(office.log(), [step for plan in self.plans for step in plan])
        case.assertEqual([office.at(k) for k in range(len(office) + 1)], self.rows)
        for person in range(len(self.chart) + 2):
            case.assertEqual(office.posts_of(person), [post_of(self.chart, row, person) for row in self.rows])
            case.assertIs(person in office, person in self.rows[-1])
        case.assertEqual(changes.play(self.chart, self.rows[0], office.log()), office.arrangement)


def random_step(source, row, count):
    """A step that is often, but not always, possible."""
    person = source.randrange(count + 1)
    if person in row and source.randrange(6) > 0:
        return ("leave", person)
    ready = [k for k in range(count) if row[k] is None] or [0]
    return ("join", person, ready[0] if source.randrange(3) > 0 else source.choice(ready))


def random_call(source, row, count):
    """The name of a method that makes a step, and its arguments."""
    name = source.choice(("leave", "admit", "admit", "play"))
    if name == "leave":
        held = people_of(row) + [source.randrange(count + 1)] * (source.randrange(5) == 0)
        return name, source.sample(held, min(len(held), source.randrange(4)))
    if name == "admit":
        step = random_step(source, row, count)
        return name, [step[1], step[2] if len(step) == 3 else source.randrange(count)]
    return name, [[random_step(source, row, count) for _ in range(source.randrange(4))]]


class Construction(unittest.TestCase):
    def test_document(self):
        office = Office.in_order(CHART, ORDER, PEOPLE)
        seen = office.preview(1, 2)
        office.leave(1)
        office.undo()
        self.assertEqual([office.arrangement, seen, office.head, len(office), office.log()],
                         [ARRANGEMENT, HALF_EMPTY, 1, 0, []])

    def test_words(self):
        for kind in BOTH:
            self.assertEqual(kind.WORDS, ("leave", "join"))
            self.assertEqual(kind.vacant(CHART).WORDS, ("leave", "join"))

    def test_strict_offices_are_offices(self):
        self.assertEqual(StrictOffice.__bases__, (Office,))
        self.assertEqual(Office.__bases__, (object,))

    def test_constructor(self):
        for kind in BOTH:
            for chart, row in [(CHART, ARRANGEMENT), (CHART, HALF_EMPTY), (CHART, EMPTY), ((None,), (0,)), ((None,), (None,))]:
                office = kind(chart, row)
                Model(chart, row, kind is StrictOffice).check(self, office)
                self.assertEqual(kind(chart=chart, arrangement=row), office)

    def test_constructor_errors(self):
        for kind in BOTH:
            for chart in BAD_CHARTS + HUGE:
                for row in (ARRANGEMENT, None):
                    with self.assertRaises(InvalidChart) as caught:
                        kind(chart, row)
                    self.assertEqual(caught.exception.reason, check_chart(chart))
            for row in BAD_ROWS + HUGE:
                with self.assertRaises(InvalidArrangement) as caught:
                    kind(CHART, row)
                self.assertEqual(caught.exception.reason, check_arrangement(CHART, row))

    def test_vacant(self):
        for kind in BOTH:
            for chart in all_charts(4) + [(None,), FORTY_LINE]:
                office = kind.vacant(chart)
                Model(chart, (None,) * len(chart), kind is StrictOffice).check(self, office)
                self.assertEqual([office.people, office.head, len(office), office.log()], [[], None, 0, []])
            self.assertEqual(kind.vacant(chart=CHART).arrangement, EMPTY)
            for chart in BAD_CHARTS + HUGE:
                with self.assertRaises(InvalidChart) as caught:
                    kind.vacant(chart)
                self.assertEqual(caught.exception.reason, check_chart(chart))

    def test_in_order(self):
        for kind in BOTH:
            for chart, row in small_cases():
                if None not in row:
                    order, people = order_of(chart, row), people_of(row)
                    office = kind.in_order(chart, order, people)
                    Model(chart, row, kind is StrictOffice).check(self, office)
                    order.clear()
                    people.clear()
                    self.assertEqual(office.arrangement, row)
            office = kind.in_order(chart=CHART, order=ORDER, people=PEOPLE)
            self.assertEqual([type(office), office.arrangement], [kind, ARRANGEMENT])
            self.assertEqual(kind.in_order((None,), [0], [0]).arrangement, (0,))
        self.assertEqual([ORDER, PEOPLE], [[0, 1, 4, 2, 3, 5], [1, 2, 3, 4, 5, 6]])

    def test_class_methods_off_an_object(self):
        for kind in BOTH:
            office = kind(CHART, HALF_EMPTY)
            self.assertIs(type(office.vacant((None, 0))), kind)
            self.assertIs(type(office.in_order((None, 0), [0, 1], [1, 2])), kind)
            self.assertEqual(office.arrangement, HALF_EMPTY)

    def test_in_order_chart_and_order(self):
        for kind in BOTH:
            for people in (PEOPLE, None, [6, 5, 4, 3, 2, 1]):
                for chart in BAD_CHARTS + HUGE:
                    for order in (ORDER, None):
                        with self.assertRaises(InvalidChart) as caught:
                            kind.in_order(chart, order, people)
                        self.assertEqual(caught.exception.reason, check_chart(chart))
                for order in NOT_LISTS + HUGE + ([], ORDER[:5], ORDER + [6], [0, 4, 1, 2, 3, 5], [0] * 6, [True] * 6):
                    with self.assertRaises(InvalidOrder) as caught:
                        kind.in_order(CHART, order, people)
                    self.assertEqual(caught.exception.reason, check_order(CHART, order))

    def test_in_order_people(self):
        wrong = [(value, None) for value in (*NOT_LISTS, *HUGE, [], [1], [None] * 5, PEOPLE + [7], [None] * 7, tuple(PEOPLE))]
        for item in (*NOT_PEOPLE, 2, 1, 0):
            wrong += [([1, 2, item, 4, 5, 6], 2), ([1, 2, 3, 4, 5, item], 5), ([1, 2, item, None, 1, -1], 2)]
        wrong += [([item, 2, 3, 4, 5, 6], 0) for item in NOT_PEOPLE]
        wrong += [([1] * 6, 1), ([6, 5, 4, 3, 2, 1], 1), ([1, 2, 3, 5, 4, 6], 4), ([1, 2, 3, 4, 6, 6], 5)]
        for kind in BOTH:
            for people, index in wrong:
                with self.assertRaises(InvalidPeople) as caught:
                    kind.in_order(CHART, ORDER, people)
                self.assertEqual(caught.exception.index, index)


class Properties(unittest.TestCase):
    def test_people_are_new_at_each_access(self):
        for kind in BOTH:
            office = kind(CHART, HALF_EMPTY)
            office.people.clear()
            office.people.append(9)
            self.assertEqual(office.people, [3, 4, 5, 6])
            self.assertIsNot(office.people, office.people)

    def test_they_follow_the_steps(self):
        for kind in BOTH:
            office = kind.vacant((None, 0))
            self.assertEqual([office.arrangement, office.people, office.head], [(None, None), [], None])
            office.admit(7, 0)
            self.assertEqual([office.arrangement, office.people, office.head], [(7, None), [7], 7])
            office.admit(3, 1)
            self.assertEqual([office.arrangement, office.people, office.head], [(3, 7), [3, 7], 3])
            office.leave(3, 7)
            self.assertEqual([office.arrangement, office.people, office.head], [(None, None), [], None])

    def test_they_are_properties(self):
        for name in ("chart", "arrangement", "people", "head"):
            self.assertIsInstance(vars(Office)[name], property)
            with self.assertRaises(AttributeError):
                setattr(Office(CHART, ARRANGEMENT), name, None)

    def test_results_are_new(self):
        for kind in BOTH:
            office = kind(CHART, ARRANGEMENT)
            office.leave(1, 2)
            before = state(office)
            office.log().append(("leave", 3))
            office.posts_of(1).append(9)
            office.log().clear()
            self.assertEqual(state(office), before)


class Steps(unittest.TestCase):
    def test_random_steps(self):
        for seed in range(60):
            source = Random(seed)
            chart = random_chart(seed, 1 + seed % 6)
            row = random_arrangement(seed, chart, empty=source.randint(0, len(chart)))
            row = tuple([None if person is None else people_of(row).index(person) for person in row])
            for strict, kind in enumerate(BOTH):
                self.walk(Random(seed), kind(chart, row), Model(chart, row, strict == 1))

    def walk(self, source, office, model):
        copies = []
        for _ in range(25):
            name, arguments = random_call(source, office.arrangement, len(model.chart))
            self.step(office, model, name, arguments)
            if source.randrange(4) == 0:
                self.take_back(office, model)
            if source.randrange(6) == 0:
                copies.append((office.copy(), list(model.rows), list(model.plans)))
            model.check(self, office)
        for office, rows, plans in copies:
            model.rows, model.plans = rows, plans
            model.check(self, office)
            self.assertEqual(office, Office(model.chart, rows[-1]))

    def step(self, office, model, name, arguments):
        """Make a step, after trying it; both lead to the same arrangement or to the same error."""
        look = {"leave": office.preview, "play": office.rehearse}.get(name)
        before = state(office)
        try:
            plan, after = model.outcome(name, arguments)
        except MovingUpError as error:
            for ask in (look, getattr(office, name)):
                if ask is not None:
                    with self.assertRaises(MovingUpError) as caught:
                        ask(*arguments)
                    self.assertEqual((type(caught.exception), vars(caught.exception)), (type(error), vars(error)))
                    self.assertEqual(state(office), before)
            return
        if look is not None:
            self.assertEqual(look(*arguments), after)
            self.assertEqual(state(office), before)
        self.assertEqual(getattr(office, name)(*arguments), after)
        model.keep(plan, after)

    def take_back(self, office, model):
        if model.plans:
            self.assertIsNone(office.undo())
            model.plans.pop()
            model.rows.pop()
        else:
            with self.assertRaises(NothingToUndo):
                office.undo()

    def test_leave(self):
        for kind in BOTH:
            office = kind(CHART, ARRANGEMENT)
            self.assertEqual(office.leave(1, 2), HALF_EMPTY)
            self.assertEqual([len(office), office.log()], [1, [("leave", 1), ("leave", 2)]])
            self.assertEqual(office.leave(3), (4, 5, 6, None, None, None))
            self.assertEqual([office.at(k) for k in range(3)], [ARRANGEMENT, HALF_EMPTY, office.arrangement])
            self.assertEqual(office.posts_of(5), [3, 1, 1])
            self.assertEqual(office.posts_of(3), [4, 0, None])
            self.assertEqual(office.posts_of(9), [None] * 3)

    def test_admit(self):
        for kind in BOTH:
            office = kind(CHART, HALF_EMPTY)
            self.assertEqual(office.admit(1, 3), (1, 3, 4, 5, None, 6))
            self.assertEqual(office.admit(person=9, post=4), (1, 3, 4, 5, 9, 6))
            self.assertEqual([len(office), office.log()], [2, [("join", 1, 3), ("join", 9, 4)]])

    def test_play(self):
        for kind in BOTH:
            office = kind(CHART, ARRANGEMENT)
            plan = [("leave", 1), ("leave", 2), ("join", 1, 3), ("leave", 6)]
            self.assertEqual(office.rehearse(plan=plan), (1, 3, 4, 5, None, None))
            self.assertEqual(office.play(plan=plan), (1, 3, 4, 5, None, None))
            self.assertEqual([len(office), office.log()], [1, plan])
            plan.append(("leave", 9))
            plan[0] = None
            self.assertEqual(office.log()[0], ("leave", 1))
            self.assertEqual(len(office.log()), 4)
            office.undo()
            self.assertEqual([office.arrangement, len(office), office.log()], [ARRANGEMENT, 0, []])

    def test_a_step_with_nobody_and_an_empty_plan(self):
        for kind in BOTH:
            for row in (ARRANGEMENT, EMPTY):
                office = kind(CHART, row)
                self.assertEqual([office.leave(), office.play([]), office.leave()], [row] * 3)
                self.assertEqual([len(office), office.log()], [3, []])
                self.assertEqual([office.at(k) for k in range(4)], [row] * 4)
                self.assertEqual(office.posts_of(1), [post_of(CHART, row, 1)] * 4)
                office.undo()
                self.assertEqual([len(office), office.arrangement], [2, row])
                self.assertEqual([office.preview(), office.rehearse([])], [row, row])
                self.assertEqual(len(office), 2)

    def test_undo(self):
        for kind in BOTH:
            office = kind(CHART, ARRANGEMENT)
            with self.assertRaises(NothingToUndo) as caught:
                office.undo()
            self.assertEqual(vars(caught.exception), {})
            office.leave(1, 2)
            office.admit(0, 3)
            office.play([("leave", 0), ("leave", 3)])
            seen = [office.at(k) for k in range(4)]
            for k in (2, 1, 0):
                self.assertIsNone(office.undo())
                self.assertEqual([office.arrangement, len(office)], [seen[k], k])
                self.assertEqual(office.posts_of(3), [post_of(CHART, row, 3) for row in seen[:k + 1]])
            with self.assertRaises(NothingToUndo):
                office.undo()
            office.leave(6)
            self.assertEqual(office.log(), [("leave", 6)])

    def test_an_office_without_people(self):
        for kind in BOTH:
            office = kind.vacant(CHART)
            with self.assertRaises(InvalidPerson) as caught:
                office.leave(1)
            self.assertEqual(caught.exception.person, 1)
            with self.assertRaises(InvalidPost) as caught:
                office.admit(1, 1)
            self.assertEqual(caught.exception.post, 1)
            self.assertEqual(office.admit(1, 0), (1,) + EMPTY[1:])


class Strict(unittest.TestCase):
    def test_only_at_the_smallest_open_post(self):
        office, strict = Office(CHART, HALF_EMPTY), StrictOffice(CHART, HALF_EMPTY)
        self.assertEqual(office.admit(9, 4), (3, 5, 4, None, 9, 6))
        with self.assertRaises(InvalidPost) as caught:
            strict.admit(9, 4)
        self.assertEqual([caught.exception.post, len(strict)], [4, 0])
        for ask in (strict.play, strict.rehearse):
            with self.assertRaises(PlanBlocked) as caught:
                ask([("leave", 6), ("join", 9, 4)])
            self.assertEqual([caught.exception.index, len(strict)], [1, 0])
        self.assertEqual(strict.rehearse([("leave", 6), ("join", 9, 3), ("join", 7, 4)]), (3, 5, 4, 9, 7, None))
        self.assertEqual(strict.admit(9, 3), (3, 5, 4, 9, None, 6))
        self.assertEqual(strict.admit(7, 4), (3, 5, 4, 9, 7, 6))

    def test_the_smallest_one_changes_within_a_plan(self):
        strict = StrictOffice.vacant(CHART)
        self.assertEqual(strict.play([("join", k + 1, k) for k in range(6)]), (1, 2, 3, 4, 5, 6))
        with self.assertRaises(PlanBlocked) as caught:
            strict.rehearse([("leave", 6), ("leave", 5), ("join", 8, 5)])
        self.assertEqual(caught.exception.index, 2)
        self.assertEqual(strict.play([("leave", 6), ("leave", 5), ("join", 5, 4), ("join", 6, 5)]), (1, 2, 3, 4, 5, 6))

    def test_the_first_step_that_is_not_possible(self):
        for plan, index in (
                ([("join", 9, 4), ("leave", 9), ("leave", 9)], 0), ([("leave", 9), ("join", 9, 4)], 0),
                ([("leave", 6), ("join", 3, 3), ("join", 9, 4)], 1), ([("join", 9, 3), ("join", 8, 5)], 1)):
            for ask in (StrictOffice(CHART, HALF_EMPTY).play, StrictOffice(CHART, HALF_EMPTY).rehearse):
                with self.assertRaises(PlanBlocked) as caught:
                    ask(plan)
                self.assertEqual(caught.exception.index, index)

    def test_the_person_is_checked_ahead_of_the_post(self):
        strict = StrictOffice(CHART, HALF_EMPTY)
        for person in (*NOT_PEOPLE, 3):
            for post in (4, 3, 0, None):
                with self.assertRaises(InvalidPerson) as caught:
                    strict.admit(person, post)
                self.assertEqual(caught.exception.person, person)

    def test_no_open_post(self):
        for kind in BOTH:
            for post in range(6):
                with self.assertRaises(InvalidPost) as caught:
                    kind(CHART, ARRANGEMENT).admit(9, post)
                self.assertEqual(caught.exception.post, post)
                with self.assertRaises(PlanBlocked):
                    kind(CHART, ARRANGEMENT).rehearse([("join", 9, post)])

    def test_a_plan_of_another_form_is_an_invalid_one(self):
        strict = StrictOffice(CHART, HALF_EMPTY)
        for ask in (strict.play, strict.rehearse):
            with self.assertRaises(InvalidPlan) as caught:
                ask([("join", 9, 4), None])
            self.assertEqual(caught.exception.reason, ("step", 1))


class Questions(unittest.TestCase):
    def test_at(self):
        for kind in BOTH:
            office = kind(CHART, ARRANGEMENT)
            office.leave(1)
            office.leave(2)
            self.assertEqual([office.at(0), office.at(1), office.at(step=2)],
                             [ARRANGEMENT, (2, 3, 4, 5, None, 6), HALF_EMPTY])
            for step in (*NOT_PEOPLE, *HUGE, 3, 4):
                with self.assertRaises(InvalidNumber) as caught:
                    office.at(step)
                self.assertIs(caught.exception.number, step)
            office.undo()
            with self.assertRaises(InvalidNumber) as caught:
                office.at(2)
            self.assertEqual(caught.exception.number, 2)

    def test_posts_of(self):
        for kind in BOTH:
            office = kind(CHART, ARRANGEMENT)
            self.assertEqual(office.posts_of(person=4), [2])
            self.assertEqual(office.posts_of(10 ** 899), [None])
            for person in NOT_PEOPLE:
                with self.assertRaises(InvalidPerson) as caught:
                    office.posts_of(person)
                self.assertIs(caught.exception.person, person)

    def test_copies_are_independent(self):
        for kind in BOTH:
            office = kind(CHART, ARRANGEMENT)
            office.leave(1, 2)
            twin = office.copy()
            self.assertEqual([type(twin), twin, state(twin)], [kind, office, state(office)])
            office.admit(9, 3)
            self.assertEqual([twin.arrangement, len(twin)], [HALF_EMPTY, 1])
            twin.undo()
            self.assertEqual([twin.arrangement, len(twin)], [ARRANGEMENT, 0])
            self.assertEqual([office.arrangement, len(office)], [(3, 5, 4, 9, None, 6), 2])
            twin.leave(6)
            office.undo()
            self.assertEqual([office.log(), twin.log()], [[("leave", 1), ("leave", 2)], [("leave", 6)]])
            self.assertEqual(state(office.copy().copy()), state(office))

    def test_a_copy_of_a_strict_office_is_strict(self):
        twin = StrictOffice(CHART, HALF_EMPTY).copy()
        with self.assertRaises(InvalidPost):
            twin.admit(9, 4)
        with self.assertRaises(PlanBlocked):
            twin.play([("join", 9, 4)])
        self.assertEqual(Office(CHART, HALF_EMPTY).copy().admit(9, 4), (3, 5, 4, None, 9, 6))

    def test_equality(self):
        for kind in BOTH:
            for other in BOTH:
                office = kind(CHART, ARRANGEMENT)
                self.assertTrue(office == other(CHART, ARRANGEMENT))
                self.assertFalse(office != other(CHART, ARRANGEMENT))
                self.assertFalse(office == other(CHART, HALF_EMPTY))
                self.assertTrue(office != other(CHART, HALF_EMPTY))
                self.assertFalse(other((None, 0, 0), (1, 2, None)) == kind((None, 0, 1), (1, 2, None)))
                self.assertFalse(other.vacant((None, 0)) == kind.vacant((None,)))
                # How an office came to its arrangement does not count.
                office.leave(1, 2)
                self.assertTrue(office == other(CHART, HALF_EMPTY))
                self.assertTrue(other(CHART, HALF_EMPTY) == office)
                office.undo()
                self.assertTrue(office == other(CHART, ARRANGEMENT))

    def test_other_objects_are_not_equal(self):
        for kind in BOTH:
            office = kind(CHART, ARRANGEMENT)
            for value in (None, True, 0, "", CHART, ARRANGEMENT, (CHART, ARRANGEMENT), [], {}, Office, object(), ANY):
                self.assertFalse(office == value)
                self.assertTrue(office != value)

    def test_in(self):
        for kind in BOTH:
            office = kind(CHART, HALF_EMPTY)
            self.assertEqual([person for person in range(9) if person in office], [3, 4, 5, 6])
            for value in (*NOT_WHOLE, *HUGE, -1, 3.0, 7, office, ARRANGEMENT, HALF_EMPTY, object(), ANY):
                self.assertIs(value in office, False)
                self.assertIs(value not in office, True)
            self.assertIs(1 in kind((None,), (1,)), True)
            self.assertIs(True in kind((None,), (1,)), False)
            self.assertIs(False in kind((None,), (0,)), False)
            self.assertIs(None in kind((None,), (None,)), False)

    def test_length(self):
        for kind in BOTH:
            office = kind(CHART, ARRANGEMENT)
            lengths = [len(office)]
            for step in (lambda: office.leave(1, 2, 3), office.leave, lambda: office.play([]), office.undo, office.undo):
                step()
                lengths.append(len(office))
            self.assertEqual(lengths, [0, 1, 2, 3, 2, 1])


class Errors(unittest.TestCase):
    """Each error leaves the office as it was."""

    def setUp(self):
        self.offices = []
        for kind in BOTH:
            office = kind(CHART, ARRANGEMENT)
            office.leave(1, 2)
            self.offices.append(office)

    def check(self, error, field, value, ask):
        for office in self.offices:
            before = state(office)
            with self.assertRaises(error) as caught:
                ask(office)
            self.assertIs(type(caught.exception), error)
            self.assertEqual(getattr(caught.exception, field), value)
            self.assertEqual(state(office), before)

    def test_leave_and_preview(self):
        for person in (*NOT_PEOPLE, *HUGE, 0, 1, 7):
            for rest in ((), (None,), (3, 3)):
                self.check(InvalidPerson, "person", person, lambda office: office.leave(person, *rest))
                self.check(InvalidPerson, "person", person, lambda office: office.leave(3, 6, person, *rest))
                self.check(InvalidPerson, "person", person, lambda office: office.preview(3, person, *rest))
        self.check(InvalidPerson, "person", 3, lambda office: office.leave(3, 4, 3, 9))
        self.check(InvalidPerson, "person", 3, lambda office: office.preview(3, 4, 3, 9))

    def test_admit(self):
        for person in (*NOT_PEOPLE, "x" * 10000, [[]] * 200000, 3, 6):
            for post in (3, 5, None):
                self.check(InvalidPerson, "person", person, lambda office: office.admit(person, post))
        for post in (*NOT_WHOLE, *HUGE, -1, 0, 1, 2, 5, 6):
            self.check(InvalidPost, "post", post, lambda office: office.admit(1, post))

    def test_play_and_rehearse(self):
        for plan in (*NOT_LISTS, *HUGE, [None], [("leave", 3), ("leave", -1)], [("leave", 9), ("join", 1, 6)]):
            reason = changes.check_plan(CHART, plan)
            self.check(InvalidPlan, "reason", reason, lambda office: office.play(plan))
            self.check(InvalidPlan, "reason", reason, lambda office: office.rehearse(plan))
        for step in (("leave", 1), ("join", 3, 3), ("join", 9, 0), ("join", 9, 2)):
            plan = [("leave", 6), ("join", 1, 3), ("leave", 1), step, step]
            self.check(PlanBlocked, "index", 3, lambda office: office.play(plan))
            self.check(PlanBlocked, "index", 3, lambda office: office.rehearse(plan))


class Limits(unittest.TestCase):
    def test_two_thousand_steps(self):
        for kind in BOTH:
            office = kind(FORTY_LINE, FORTY_PEOPLE)
            for k in range(1000):
                office.leave(FORTY_PEOPLE[k % 40])
                office.admit(FORTY_PEOPLE[k % 40], 39)
            self.assertEqual([len(office), len(office.log()), office.arrangement], [2000, 2000, FORTY_PEOPLE])
            self.assertEqual(office.posts_of(FORTY_PEOPLE[0])[:4], [0, None, 0, 0])
            self.assertEqual([len(office.posts_of(person)) for person in FORTY_PEOPLE], [2001] * 40)
            self.assertEqual(office.at(1999), FORTY_PEOPLE[:39] + (None,))
            twin = office.copy()
            for _ in range(2000):
                office.undo()
            self.assertEqual([len(office), office.log(), len(twin)], [0, [], 2000])
            self.assertEqual(changes.play(FORTY_LINE, FORTY_PEOPLE, twin.log()), twin.arrangement)

    def test_a_plan_of_two_thousand_steps(self):
        for kind in BOTH:
            chart = random_chart(2, 40)
            office = kind.vacant(chart)
            plan = [("join", 10 ** 17 + k, k) for k in range(40)]
            plan += [("leave", 10 ** 17 + 39), ("join", 10 ** 17 + 39, 39)] * 980
            self.assertEqual(office.rehearse(plan), office.play(plan))
            self.assertEqual([len(office), len(office.log())], [1, 2000])
            self.assertEqual(office.posts_of(10 ** 17 + 39), [None, 39])
            office.undo()
            self.assertEqual([len(office), office.people], [0, []])

    def test_many_empty_steps(self):
        office = Office(FORTY_LINE, FORTY_PEOPLE)
        for _ in range(2000):
            office.leave()
        self.assertEqual([len(office), office.log()], [2000, []])
        self.assertEqual(office.posts_of(FORTY_PEOPLE[7]), [7] * 2001)


if __name__ == "__main__":
    unittest.main()
