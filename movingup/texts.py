"""Texts that show who holds which post, a line for each post."""

from movingup.arrangements import may_stand_below, require_arrangement
from movingup.basics import is_numeral
from movingup.errors import InvalidText
from movingup.moves import posts_under


def in_text_order(chart):
    """Return the posts with their depths, each one ahead of the posts below it."""
    under = posts_under(chart)
    found = []
    waiting = [(0, 0)]
    while len(waiting) > 0:
        post, depth = waiting.pop()
        found.append((post, depth))
        for lower in reversed(under[post]):
            waiting.append((lower, depth + 1))
    return found


def line_for(post, depth, person):
    """Return the line for a post."""
    holder = "-" if person is None else str(person)
    return "  " * depth + f"{post}: {holder}"


def show(chart, arrangement):
    """Return the text that shows an arrangement of a chart."""
    require_arrangement(chart, arrangement)
    return "\n".join([line_for(post, depth, arrangement[post]) for post, depth in in_text_order(chart)])


def parts_of(line):
    """Return the post, its depth and its holder as a line tells them, or None if its form is wrong."""
    entry = line.lstrip(" ")
    blanks = len(line) - len(entry)
    post, _, holder = entry.partition(": ")
    if blanks % 2 == 1 or not is_numeral(post):
        return None
    if holder == "-":
        return (int(post), blanks // 2, None)
    if not is_numeral(holder):
        return None
    return (int(post), blanks // 2, int(holder))


def is_place(post, depth, path, above):
    """Tell whether a post may come at this depth behind a path and behind the posts read so far."""
    if len(path) == 0:
        return post == 0 and depth == 0
    return 1 <= depth <= len(path) and post not in above and post > path[depth - 1]


def lines_read(lines):
    """Return for each post of the lines the post directly above, and for each post the holder."""
    path = []
    above = {}
    holders = {}
    people = set()
    for k, line in enumerate(lines):
        parts = parts_of(line)
        if parts is None:
            raise InvalidText(k)
        post, depth, person = parts
        if not is_place(post, depth, path, above):
            raise InvalidText(k)
        path = path[:depth] + [post]
        above[post] = path[-2] if depth > 0 else None
        holders[post] = person
        if person is not None:
            if person in people or (depth > 0 and not may_stand_below(person, holders[above[post]])):
                raise InvalidText(k)
            people.add(person)
    return (above, holders)


def read(text):
    """Return the chart and the arrangement that a text shows."""
    if not isinstance(text, str):
        raise InvalidText(None)
    lines = text.split("\n")
    above, holders = lines_read(lines)
    posts = range(len(lines))
    # As many different posts as lines: none is missing if none is too large.
    if max(above) >= len(lines):
        raise InvalidText(len(lines))
    chart = tuple([above[post] for post in posts])
    arrangement = tuple([holders[post] for post in posts])
    # Only the order of posts directly below one post can still be wrong.
    if show(chart, arrangement) != text:
        raise InvalidText(len(lines))
    return (chart, arrangement)
