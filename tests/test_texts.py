"""Points 65 and 66: texts with one line for each post."""

import re
import unittest
from itertools import product
from random import Random

from movingup.arrangements import check_arrangement
from movingup.charts import check_chart
from movingup.errors import InvalidArrangement, InvalidChart, InvalidText
from movingup.texts import read, show
from oracle import (
    ARRANGEMENT, BAD_CHARTS, CHART, HALF_EMPTY, NOT_ARRANGEMENTS, all_charts, climb,
    random_arrangement, random_chart, small_cases)

TEXT = "0: 1\n  1: 2\n    3: 5\n    4: 3\n  2: 4\n    5: 6"
LONG = 10 ** 18 - 1
# Lines whose form is wrong wherever they stand.
WRONG_FORMS = (
    "", " ", "  ", "3", "3:", "3: ", "3:5", "3 : 5", ": 5", "3: :", "3; 5", "3:  5", "3 5", "x: 5", "3: x", "3: --",
    "3: 5 ", "3: - ", "3: 5-", "3: -5", "-3: 5", "+3: 5", "3: +5", "03: 5", "00: 5", "3: 05", "3: 00", "3: 1_0",
    "1_0: 5", "3: 5.0", "3: None", "3: none", "3: 0x5", "\u0663: 5", "3: \u0665", "3: \u00b2", "3: \uff15",
    "3: 5\r", "\t3: 5", "3:\t5", "3: 5\t", "3:\u00a05", "\u00a0\u00a03: 5", "3: 5: 5", "3: 5 6", f"{10 ** 18}: -",
    f"3: {10 ** 18}", f"3: {10 ** 899}", "3: \u2013")
NO_STRINGS = (
    None, True, False, 0, 7, -1, 10 ** 899, (), ("0: 1",), [], ["0: 1"], {}, {"0: 1": 1}, b"0: 1", 1.5, [[]] * 200000)


def shown(chart, row, post=0):
    """The lines of a post and of all posts below it, one inside the other."""
    below = [k for k in range(len(chart)) if chart[k] == post]
    line = "  " * (len(climb(chart, post)) - 1) + f"{post}: " + ("-" if row[post] is None else str(row[post]))
    return [line] + [lower for k in below for lower in shown(chart, row, k)]


def first_wrong(text):
    """The field of the error for a text, or None for a right one, line by line as point 66 says it."""
    lines = text.split("\n")
    found = []
    for k, line in enumerate(lines):
        form = re.fullmatch("((?:  )*)(0|[1-9][0-9]{0,17}): (-|0|[1-9][0-9]{0,17})", line, re.ASCII)
        if form is None:
            return k
        depth, post = len(form[1]) // 2, int(form[2])
        person = None if form[3] == "-" else int(form[3])
        if k == 0:
            above = None
            if depth != 0 or post != 0:
                return k
        else:
            if not 1 <= depth <= found[-1][0] + 1:
                return k
            above = [other for other in found if other[0] == depth - 1][-1]
            if post in [other[1] for other in found] or post <= above[1]:
                return k
        if person is not None:
            if person in [other[2] for other in found]:
                return k
            if k > 0 and (above[2] is None or person <= above[2]):
                return k
        found.append((depth, post, person, None if k == 0 else above[1]))
    if sorted([other[1] for other in found]) != list(range(len(lines))):
        return len(lines)
    for _, post, _, above in found:
        siblings = [other[1] for other in found if other[3] == above]
        if siblings != sorted(siblings):
            return len(lines)
    return None


class Show(unittest.TestCase):
    def test_document(self):
        self.assertEqual(show((None, 0, 0, 1), (5, 7, None, None)), "0: 5\n  1: 7\n    3: -\n  2: -")
        self.assertEqual(show(CHART, ARRANGEMENT), TEXT)
        self.assertEqual(show(chart=CHART, arrangement=ARRANGEMENT), TEXT)

    def test_small_cases(self):
        for chart, row in small_cases():
            self.assertEqual(show(chart, row), "\n".join(shown(chart, row)))

    def test_edges(self):
        self.assertEqual(show((None,), (None,)), "0: -")
        self.assertEqual(show((None,), (0,)), "0: 0")
        self.assertEqual(show((None,), (LONG,)), f"0: {LONG}")
        self.assertEqual(show((None, 0, 1), (None,) * 3), "0: -\n  1: -\n    2: -")
        self.assertEqual(show((None, 0, 0, 1, 0), (None,) * 5), "0: -\n  1: -\n    3: -\n  2: -\n  4: -")

    def test_large(self):
        for chart in [random_chart(seed, 40) for seed in range(8)] + [(None,) + tuple(range(39)), (None,) + (0,) * 39]:
            for empty in (0, 5, 40):
                row = random_arrangement(4, chart, empty=empty)
                self.assertEqual(show(chart, row), "\n".join(shown(chart, row)))

    def test_chart_first_and_arrangement_second(self):
        for chart in BAD_CHARTS:
            for row in (ARRANGEMENT, None):
                with self.assertRaises(InvalidChart) as caught:
                    show(chart, row)
                self.assertEqual(caught.exception.reason, check_chart(chart))
        for row in (*NOT_ARRANGEMENTS, (1, 2, 4, 5, 3, 4), (1, 2, 4, 5, 3, 0), (1, 2, 4, 5, True, 6)):
            with self.assertRaises(InvalidArrangement) as caught:
                show(CHART, row)
            self.assertEqual(caught.exception.reason, check_arrangement(CHART, row))


class Read(unittest.TestCase):
    def check(self, text, line):
        with self.assertRaises(InvalidText) as caught:
            read(text)
        self.assertEqual(caught.exception.line, line, text)

    def test_document(self):
        self.assertEqual(read("0: 5\n  1: 7"), ((None, 0), (5, 7)))
        self.assertEqual(read(text=TEXT), (CHART, ARRANGEMENT))

    def test_what_show_returns(self):
        for chart, row in small_cases():
            self.assertEqual(read(show(chart, row)), (chart, row))
        for count in (5, 6):
            for k, chart in enumerate(all_charts(count)):
                row = random_arrangement(k, chart, empty=k % count)
                self.assertEqual(read(show(chart, row)), (chart, row))

    def test_edges(self):
        self.assertEqual(read("0: -"), ((None,), (None,)))
        self.assertEqual(read("0: 0"), ((None,), (0,)))
        self.assertEqual(read(f"0: 0\n  1: {LONG}"), ((None, 0), (0, LONG)))
        self.assertEqual(read("0: -\n  1: -\n    2: -"), ((None, 0, 1), (None,) * 3))
        self.assertEqual(read("0: 1\n  1: -\n    2: -\n      3: -"), ((None, 0, 1, 2), (1, None, None, None)))

    def test_large(self):
        for seed in range(8):
            chart = random_chart(seed, 40)
            row = random_arrangement(seed, chart, empty=seed * 3)
            self.assertEqual(read(show(chart, row)), (chart, row))
        deep = (None,) + tuple(range(95))
        self.assertEqual(read(show(deep, tuple(range(96)))), (deep, tuple(range(96))))
        flat = (None,) + (0,) * 999
        self.assertEqual(read(show(flat, (None,) * 1000)), (flat, (None,) * 1000))

    def test_no_string(self):
        for value in NO_STRINGS:
            self.check(value, None)

    def test_wrong_forms(self):
        lines = TEXT.split("\n")
        for form in WRONG_FORMS:
            self.check(form, 0)
            for k in (0, 3, 5):
                # The form is wrong with the right number of blanks, too.
                for blanks in (lines[k][:len(lines[k]) - len(lines[k].lstrip())], ""):
                    self.check("\n".join(lines[:k] + [blanks + form] + lines[k + 1:]), k)
            self.check(TEXT + "\n    " + form, 6)

    def test_blanks(self):
        lines = TEXT.split("\n")
        for k in (1, 3, 5):
            for line in (" " + lines[k], lines[k][1:], " " * 7 + lines[k].strip(), lines[k].strip()):
                self.check("\n".join(lines[:k] + [line] + lines[k + 1:]), k)
        for line in (" 0: 1", "  0: 1", "    0: 1"):
            self.check("\n".join([line] + lines[1:]), 0)

    def test_depths(self):
        self.check("0: -\n    1: -", 1)
        self.check("0: -\n  1: -\n      2: -\n  3: -", 2)
        self.check("0: -\n  1: -\n2: -\n  3: -", 2)
        self.check("0: -\n  1: -\n    2: -\n        3: -", 3)
        self.check("0: -\n0: -", 1)
        self.check("0: -\n1: -", 1)

    def test_posts(self):
        self.check("1: -", 0)
        self.check("1: -\n  0: -", 0)
        self.check("0: -\n  0: -", 1)
        self.check("0: -\n  1: -\n  1: -\n  2: -", 2)
        self.check("0: -\n  2: -\n    1: -", 2)
        self.check("0: -\n  1: -\n    3: -\n  2: -\n    3: -", 4)
        self.check("0: -\n  1: -\n    2: -\n    1: -", 3)

    def test_people(self):
        self.check("0: 1\n  1: 1\n  2: -", 1)
        self.check("0: 2\n  1: 1\n  2: -", 1)
        self.check("0: -\n  1: 1\n  2: -", 1)
        self.check("0: 1\n  1: 2\n  2: 2\n  3: -", 2)
        self.check("0: 1\n  1: -\n    2: 3\n  3: -", 2)
        self.check("0: 1\n  1: 5\n    2: 3\n  3: -", 2)
        self.check("0: 1\n  1: 5\n  2: 3\n    3: 5", 3)
        self.check("0: 1\n  1: 5\n  2: 3\n    3: 2", 3)
        self.check("0: 1\n  1: 5\n  2: -\n    3: 7", 3)

    def test_ends(self):
        self.check("", 0)
        self.check("\n", 0)
        self.check("\n" + TEXT, 0)
        self.check(TEXT + "\n", 6)
        self.check(TEXT.replace("\n", "\r\n"), 0)
        self.check(TEXT.replace("\n", "\n\n"), 1)
        self.check("x" * 10000, 0)
        self.check("\n" * 10000, 0)
        self.check("0: -" + "\n" * 9996, 1)

    def test_a_missing_post(self):
        self.check("0: -\n  2: -", 2)
        self.check("0: -\n  1: -\n  3: -", 3)
        self.check(f"0: -\n  {LONG}: -", 2)
        self.check(f"0: 0\n  1: 1\n    {LONG}: {LONG}", 3)
        self.check(TEXT.replace("  2: 4", "  7: 4").replace("5: 6", "8: -"), 6)

    def test_posts_that_are_not_in_ascending_order(self):
        self.check("0: -\n  2: -\n  1: -", 3)
        self.check("0: -\n  1: -\n    4: -\n    3: -\n  2: -", 5)
        self.check("0: 1\n  3: 2\n    4: 4\n  1: 3\n  2: -", 5)
        # Posts below different posts may come in any order.
        self.assertEqual(read("0: -\n  1: -\n    4: -\n  2: -\n    3: -")[0], (None, 0, 0, 2, 1))

    def test_the_first_of_several_faults(self):
        self.check("0: -\n  2: -\n  1: -\n  1: -", 3)
        self.check("0: -\n  5: -\n  3: 4\n  x", 2)
        self.check("0: 1\n  x\n  1: -\nx", 1)
        self.check("\n  1: 1\n\n", 0)

    def test_all_short_texts(self):
        lines = ["0: -", "0: 1", "  1: -", "  1: 1", "  1: 2", "  2: 2", "  2: 3", "    2: 3", "    2: -", "    1: -"]
        for size in (1, 2, 3):
            for chosen in product(lines, repeat=size):
                self.compare("\n".join(chosen))

    def test_texts_with_faults(self):
        source = Random(5)
        for seed in range(400):
            chart = random_chart(seed, source.randint(1, 9))
            row = random_arrangement(seed, chart, empty=source.randint(0, len(chart)))
            # Small numbers, so that a changed line may be right or wrong.
            row = tuple([None if person is None else sorted(filter(None, row)).index(person) for person in row])
            lines = shown(chart, row)
            for _ in range(source.randint(0, 2)):
                k, j = source.randrange(len(lines)), source.randrange(len(lines))
                changes = (
                    lines[:k] + lines[k + 1:], lines[:k] + [lines[j]] + lines[k + 1:], lines[:k] + [lines[j]] + lines[k:],
                    lines[:k] + ["  " + lines[k]] + lines[k + 1:], lines[:k] + [lines[k][2:]] + lines[k + 1:],
                    lines[:k] + [lines[k].replace("1", "2")] + lines[k + 1:], lines[:k] + [lines[k] + "0"] + lines[k + 1:])
                lines = source.choice(changes) or lines
            self.compare("\n".join(lines))

    def compare(self, text):
        line = first_wrong(text)
        if line is None:
            chart, row = read(text)
            self.assertIsNone(check_arrangement(chart, row))
            self.assertEqual(show(chart, row), text)
        else:
            self.check(text, line)

    def test_half_empty(self):
        self.assertEqual(read(show(CHART, HALF_EMPTY)), (CHART, HALF_EMPTY))


if __name__ == "__main__":
    unittest.main()
