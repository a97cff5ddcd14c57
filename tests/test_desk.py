"""Point 67: a desk that is led by lines."""

import unittest
from random import Random

from movingup.arrangements import open_posts, post_of
from movingup.charts import check_chart
from movingup.desk import Desk
from movingup.errors import (
    InvalidChart, InvalidLine, InvalidPerson, InvalidPost, MovingUpError, NothingToUndo)
from movingup.office import Office
from movingup.texts import read, show
from oracle import BAD_CHARTS, CHART, random_chart

LONG = 10 ** 18 - 1
NOT_STRINGS = (
    None, True, False, 0, -1, 10 ** 899, (), ("undo",), [], ["undo"], {}, {"undo": 1}, b"undo", 1.5, [[]] * 200000)
# Lines of other forms; each number in them is that of a person or a post.
WRONG_LINES = (
    "", " ", "  ", "\n", "x", "1", "1 2", "leaves 1", "Leave 1", "LEAVE 1", "help", "none", "ok", "at", "join at",
    "leave", "leave ", " leave 1", "leave 1 ", "leave  1", "leave 1  2", "leave\t1", "leave 1\n", "leave 1\t2",
    "leave\u00a01", "leave 1\u20032", "leave x", "leave 1 x", "leave x 1", "leave 1,2", "leave 1, 2", "leave -1", "leave +1",
    "leave 01", "leave 1 02", "leave 00", "leave 1.0", "leave 1_0", "leave 0x1", "leave \u0661", "leave \u00b2",
    "leave \uff11", "leave 1 leave 2", "leave None", f"leave {LONG + 1}", f"leave 1 {LONG + 1}", f"leave {10 ** 899}",
    "join", "join 9", "join 9 at", "join 9 at ", "join 9 4", "join at 4", "join 9 at 4 5", "join 9 8 at 4",
    "join 9 at 4 at 5", "join 9 in 4", "join 9 At 4", "join 9  at 4", "join 9 at  4", " join 9 at 4", "join 9 at 4 ",
    "join x at 4", "join 9 at x", "join 09 at 4", "join 9 at 04", "join -9 at 4", "join 9 at -4", "join 9 at 4\n",
    "join \u0669 at 4", "join 9 at \u0664", f"join {LONG + 1} at 4", f"join 9 at {LONG + 1}", "join 9 at at", "join at at at",
    "undo ", " undo", "undo 1", "undo undo", "Undo", "undo\n", "un do",
    "post", "post ", "post x", "post 1 2", " post 1", "post 1 ", "post  1", "post 01", "post -1", "post \u0661",
    f"post {LONG + 1}", "post 1\n", "Post 1",
    "who", "who ", "who x", "who 0 1", " who 0", "who 0 ", "who  0", "who 00", "who -1", "who \u0660",
    f"who {LONG + 1}", "who 0\n", "Who 0",
    "open 1", "open ", " open", "Open", "open\n", "steps 1", "steps ", " steps", "Steps", "steps\n",
    "show 1", "show ", " show", "Show", "show\n", "x" * 10000, "leave" + " 1" * 4000 + " x", " " * 10000,
    "\u0131" * 9999)


def everything(desk):
    """All that a desk tells."""
    return [desk.say(line) for line in ["show", "open", "steps"] + [f"post {k}" for k in range(12)]]


def started():
    """A desk with people 4, 2 and 7, and four steps."""
    desk = Desk(CHART)
    for line in ("join 4 at 0", "join 2 at 1", "join 7 at 2", "join 9 at 3", "leave 9"):
        desk.say(line)
    desk.say("undo")
    return desk


def answer(office, line):
    """What a desk with this office should say, by the methods of the office."""
    word, *rest = line.split(" ")
    if word == "leave":
        office.leave(*[int(part) for part in rest])
    elif word == "join":
        office.admit(int(rest[0]), int(rest[2]))
    elif word == "undo":
        office.undo()
    elif word == "steps":
        return str(len(office))
    elif word == "show":
        return show(office.chart, office.arrangement)
    else:
        if word == "open":
            found = open_posts(office.chart, office.arrangement)
        elif word == "post":
            found = [post_of(office.chart, office.arrangement, int(rest[0]))]
        elif int(rest[0]) < len(office.chart):
            found = [office.arrangement[int(rest[0])]]
        else:
            raise InvalidPost(int(rest[0]))
        return " ".join([str(number) for number in found if number is not None]) or "none"
    return "ok"


def outcome(ask, *arguments):
    try:
        return ask(*arguments)
    except MovingUpError as error:
        return (type(error), vars(error))


class Lines(unittest.TestCase):
    def test_document(self):
        desk = Desk((None, 0, 0))
        words = [desk.say(line) for line in ("join 4 at 0", "join 2 at 1", "who 0", "post 4", "open")]
        self.assertEqual([words, desk.say("leave 2"), desk.say("show")],
                         [["ok", "ok", "2", "1", "2"], "ok", "0: 4\n  1: -\n  2: -"])

    def test_by_name(self):
        self.assertEqual(Desk(chart=(None,)).say(line="open"), "0")

    def test_at_first(self):
        desk = Desk(CHART)
        self.assertEqual([desk.say(line) for line in ("steps", "open", "who 0", "who 5", "post 0", "post 7")],
                         ["0", "0", "none", "none", "none", "none"])
        self.assertEqual(desk.say("show"), show(CHART, (None,) * 6))
        with self.assertRaises(NothingToUndo):
            desk.say("undo")

    def test_steps(self):
        desk = Desk(CHART)
        for k, line in enumerate(["join 4 at 0", "join 2 at 1", "join 7 at 2", "leave 4 7", "join 0 at 1"]):
            self.assertEqual([desk.say("steps"), desk.say(line)], [str(k), "ok"])
        self.assertEqual([desk.say("steps"), desk.say("undo"), desk.say("undo")], ["5", "ok", "ok"])
        self.assertEqual([desk.say("steps"), desk.say("post 7"), desk.say("who 1")], ["3", "2", "4"])

    def test_leave(self):
        desk = Desk(CHART)
        for line in ("join 4 at 0", "join 2 at 1", "join 0 at 2", "leave 0 4"):
            self.assertEqual(desk.say(line), "ok")
        self.assertEqual(desk.say("show"), show(CHART, (2,) + (None,) * 5))
        self.assertEqual(desk.say("undo"), "ok")
        self.assertEqual([desk.say(f"who {k}") for k in range(3)], ["0", "4", "2"])
        self.assertEqual([desk.say(f"post {k}") for k in range(5)], ["0", "none", "2", "none", "1"])

    def test_long_numbers(self):
        desk = Desk((None, 0))
        self.assertEqual([desk.say(f"join {LONG} at 0"), desk.say("join 0 at 1"), desk.say("who 1"), desk.say(f"post {LONG}")],
                         ["ok", "ok", str(LONG), "1"])
        self.assertEqual(desk.say(f"leave {LONG} 0"), "ok")
        self.assertEqual(desk.say("open"), "0")

    def test_chart_of_one_post(self):
        desk = Desk((None,))
        self.assertEqual([desk.say(line) for line in ("open", "join 3 at 0", "open", "who 0", "post 3", "show", "steps")],
                         ["0", "ok", "none", "3", "0", "0: 3", "1"])

    def test_open_posts(self):
        self.assertEqual(started().say("open"), "4 5")
        desk = Desk((None,) + (0,) * 11)
        desk.say("join 1 at 0")
        self.assertEqual(desk.say("open"), "1 2 3 4 5 6 7 8 9 10 11")

    def test_two_desks(self):
        desk, other = started(), Desk(CHART)
        self.assertEqual([desk.say("steps"), other.say("steps")], ["4", "0"])
        other.say("join 1 at 0")
        self.assertEqual([desk.say("who 0"), other.say("who 0")], ["2", "1"])

    def test_random_lines(self):
        for seed in range(40):
            source = Random(seed)
            chart = random_chart(seed, 1 + seed % 7)
            desk, office = Desk(chart), Office.vacant(chart)
            for _ in range(80):
                a, b = source.randrange(10), source.randrange(len(chart) + 1)
                line = source.choice((
                    f"leave {a}", f"leave {a} {b}", f"join {a} at {b}", f"join {a} at {b}", f"join {b} at {a}",
                    f"post {a}", f"who {b}", "undo", "open", "steps", "show"))
                self.assertEqual(outcome(desk.say, line), outcome(answer, office, line))
                self.assertEqual(read(desk.say("show")), (chart, office.arrangement))
                self.assertEqual(desk.say("steps"), str(len(office)))


class Errors(unittest.TestCase):
    def check(self, error, fields, line):
        desk = started()
        before = everything(desk)
        with self.assertRaises(error) as caught:
            desk.say(line)
        self.assertIs(type(caught.exception), error)
        self.assertEqual(vars(caught.exception), fields)
        self.assertEqual(everything(desk), before)
        # Nor is the failed line a step that could be undone.
        for _ in range(4):
            desk.say("undo")
        self.assertEqual([desk.say("steps"), desk.say("open")], ["0", "0"])

    def test_constructor(self):
        for chart in BAD_CHARTS + (10 ** 899, "x" * 10000, [[]] * 200000, tuple(range(200000))):
            with self.assertRaises(InvalidChart) as caught:
                Desk(chart)
            self.assertEqual(caught.exception.reason, check_chart(chart))

    def test_no_lines(self):
        for value in NOT_STRINGS:
            self.check(InvalidLine, {}, value)

    def test_lines_of_other_forms(self):
        for line in WRONG_LINES:
            self.check(InvalidLine, {}, line)

    def test_the_form_is_checked_ahead_of_the_rest(self):
        for line in ("leave 99 x", "leave 9 9 09", "join 99 at x", "join 4 at 04", "who 99 1", "undo 5"):
            self.check(InvalidLine, {}, line)

    def test_leave(self):
        for line, person in (("leave 5", 5), ("leave 4 5 6", 5), ("leave 4 4 5", 4), (f"leave 4 {LONG}", LONG),
                             ("leave 0", 0), ("leave" + " 1" * 4000, 1)):
            self.check(InvalidPerson, {"person": person}, line)

    def test_join(self):
        for line, person in (("join 4 at 4", 4), ("join 7 at 99", 7), ("join 9 at 0", 9)):
            self.check(InvalidPerson, {"person": person}, line)
        for line, post in (("join 5 at 0", 0), ("join 5 at 3", 3), ("join 5 at 6", 6), (f"join 5 at {LONG}", LONG)):
            self.check(InvalidPost, {"post": post}, line)

    def test_who(self):
        for post in (6, 7, 10, LONG):
            self.check(InvalidPost, {"post": post}, f"who {post}")

    def test_post(self):
        self.assertEqual([started().say(f"post {person}") for person in (5, 99, LONG)], ["none"] * 3)

    def test_undo(self):
        desk = started()
        for _ in range(4):
            desk.say("undo")
        for _ in range(2):
            with self.assertRaises(NothingToUndo) as caught:
                desk.say("undo")
            self.assertEqual(vars(caught.exception), {})
        self.assertEqual([desk.say("steps"), desk.say("open")], ["0", "0"])


class Limits(unittest.TestCase):
    def test_two_thousand_lines(self):
        chart = (None,) + tuple(range(39))
        desk = Desk(chart)
        for k in range(40):
            self.assertEqual(desk.say(f"join {10 ** 17 + k} at {k}"), "ok")
        self.assertEqual([desk.say("open"), desk.say("steps")], ["none", "40"])
        for k in range(980):
            self.assertEqual(desk.say(f"leave {10 ** 17 + k % 40}"), "ok")
            self.assertEqual(desk.say("open"), "39")
            self.assertEqual(desk.say(f"join {10 ** 17 + k % 40} at 39"), "ok")
        self.assertEqual(read(desk.say("show")), (chart, tuple(range(10 ** 17, 10 ** 17 + 40))))
        self.assertEqual(desk.say("steps"), "2000")
        for _ in range(2000):
            desk.say("undo")
        self.assertEqual([desk.say("steps"), desk.say("open")], ["0", "0"])

    def test_forty_people_at_once(self):
        desk = Desk(random_chart(6, 40))
        for k in range(40):
            desk.say(f"join {10 ** 17 + k} at {desk.say('open').split()[-1]}")
        self.assertEqual(desk.say("leave " + " ".join([str(10 ** 17 + k) for k in range(39, -1, -1)])), "ok")
        self.assertEqual([desk.say("open"), desk.say("steps")], ["0", "41"])


if __name__ == "__main__":
    unittest.main()
