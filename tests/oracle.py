"""What the tests share: all small cases, wrong values, and results found in a slow way."""

from itertools import combinations, permutations, product
from random import Random

CHART = (None, 0, 0, 1, 1, 2)
ARRANGEMENT = (1, 2, 4, 5, 3, 6)
HALF_EMPTY = (3, 5, 4, None, None, 6)

NOT_WHOLE = (None, True, False, "", "1", "a" * 10000, (), (1,), [], [1], {}, {1: 1}, 1.0, [[[None]]])
NOT_PEOPLE = NOT_WHOLE + (-1, -(10 ** 899))
NOT_LISTS = (None, True, 0, 1, "", "12", (), (1, 2), {}, {1: 2})
BAD_CHARTS = (None, True, 0, "", "0", (), [], [None], {}, (0,), (True,), ((),), (None, 1), (None, True), (None, None))
NOT_ARRANGEMENTS = (None, True, 6, "123456", (), [1, 2, 4, 5, 3, 6], {}, (1, 2), ARRANGEMENT + (None,))


def all_charts(count):
    """All charts of so many posts."""
    return [(None,) + rest for rest in product(*[range(k) for k in range(1, count)])]


def all_arrangements(chart, people):
    """All arrangements of a chart with some or all of the people, each found by trial."""
    rows = product((None,) + tuple(people), repeat=len(chart))
    return [row for row in rows if fits(chart, row)]


def fits(chart, row):
    held = [person for person in row if person is not None]
    if len(set(held)) < len(held):
        return False
    pairs = [(row[chart[k]], row[k]) for k in range(1, len(chart)) if row[k] is not None]
    return all(above is not None and above < person for above, person in pairs)


def small_cases():
    """Charts with all of their arrangements; 0 is a person, too."""
    for count in (1, 2, 3, 4):
        for chart in all_charts(count):
            for row in all_arrangements(chart, range(count)):
                yield chart, row


def people_of(row):
    return sorted(person for person in row if person is not None)


def climb(chart, post):
    """The posts from a post up to the head."""
    return [post] if chart[post] is None else [post] + climb(chart, chart[post])


def remaining(chart, row, leavers):
    """Who stands where after departures, as the note in point 7 tells it."""
    found = []
    for post in range(len(chart)):
        above = [found[k] for k in climb(chart, post)[1:]]
        below = [row[k] for k in range(len(chart)) if post in climb(chart, k)]
        free = [person for person in below if person is not None and person not in leavers and person not in above]
        found.append(min(free) if free else None)
    return tuple(found)


def moves_of(chart, row, leavers):
    """How many moves are made in this order: each mover comes to another post."""
    total = 0
    for k in range(len(leavers)):
        before = remaining(chart, row, leavers[:k])
        after = remaining(chart, row, leavers[:k + 1])
        total += len([post for post in range(len(chart)) if after[post] not in (None, before[post])])
    return total


def moves_of_all_orders(chart, row, leavers):
    return [moves_of(chart, row, list(order)) for order in permutations(leavers)]


def random_chart(seed, count):
    source = Random(seed)
    return (None,) + tuple(source.randrange(k) for k in range(1, count))


def random_arrangement(seed, chart, empty=0):
    """An arrangement of a chart with long numbers, with so many empty posts."""
    source = Random(seed)
    people = sorted(source.sample(range(10 ** 17, 10 ** 18), len(chart) - empty))
    row = [None] * len(chart)
    for person in people:
        ready = [k for k in range(len(chart)) if row[k] is None and (k == 0 or row[chart[k]] is not None)]
        row[source.choice(ready)] = person
    return tuple(row)


def subsets(people):
    """All sets of people as lists, by their sizes, those of one size in Python's order."""
    return [list(chosen) for size in range(len(people) + 1) for chosen in combinations(people, size)]


def medium_cases():
    """A few charts of six and seven posts, each with an arrangement, some with empty posts."""
    for seed in range(6):
        chart = random_chart(seed, 6 + seed % 2)
        row = random_arrangement(seed, chart, empty=seed % 3 // 2)
        yield chart, tuple(None if person is None else people_of(row).index(person) for person in row)


def another_arrangement(seed, chart, people):
    """An arrangement of a chart with exactly these people."""
    source = Random(seed)
    row = [None] * len(chart)
    for person in sorted(people):
        ready = [k for k in range(len(chart)) if row[k] is None and (k == 0 or row[chart[k]] is not None)]
        row[source.choice(ready)] = person
    return tuple(row)
