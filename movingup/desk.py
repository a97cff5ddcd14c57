"""A desk: an office that is led by lines of words."""

from movingup.arrangements import open_posts, post_of
from movingup.basics import is_numeral
from movingup.charts import require_post
from movingup.errors import InvalidLine
from movingup.office import Office
from movingup.texts import show

COUNTS = {"undo": 0, "post": 1, "who": 1, "open": 0, "steps": 0, "show": 0}


def numerals_of(words):
    """Return the words of a line that have to be numbers, or None if they cannot be a line."""
    first, rest = words[0], words[1:]
    if first == "leave":
        return rest if len(rest) > 0 else None
    if first == "join":
        return [rest[0], rest[2]] if len(rest) == 3 and rest[1] == "at" else None
    return rest if COUNTS.get(first) == len(rest) else None


def parts_of_line(line):
    """Return the first word of a line and the list of its numbers."""
    if not isinstance(line, str):
        raise InvalidLine()
    words = line.split(" ")
    numerals = numerals_of(words)
    if numerals is None or not all([is_numeral(word) for word in numerals]):
        raise InvalidLine()
    return (words[0], [int(word) for word in numerals])


def text_of(value):
    """Return the answer that tells a number or None."""
    return "none" if value is None else str(value)


class Desk:
    """A desk with one office, at first without people."""

    def __init__(self, chart):
        self._office = Office.vacant(chart)

    def say(self, line):
        """Carry out or answer one line, and return a text."""
        word, numbers = parts_of_line(line)
        if word in ("leave", "join", "undo"):
            self._carry_out(word, numbers)
            return "ok"
        return self._answer(word, numbers)

    def _carry_out(self, word, numbers):
        """Make a step, or take one back."""
        if word == "leave":
            self._office.leave(*numbers)
        elif word == "join":
            self._office.admit(numbers[0], numbers[1])
        else:
            self._office.undo()

    def _answer(self, word, numbers):
        """Return the answer to a question."""
        chart, arrangement = self._office.chart, self._office.arrangement
        if word == "post":
            return text_of(post_of(chart, arrangement, numbers[0]))
        if word == "who":
            require_post(chart, numbers[0])
            return text_of(arrangement[numbers[0]])
        if word == "steps":
            return str(len(self._office))
        if word == "show":
            return show(chart, arrangement)
        found = open_posts(chart, arrangement)
        return " ".join([str(post) for post in found]) if len(found) > 0 else "none"
