"""Backwards: which departures, and which earlier arrangements, led to an arrangement."""

from movingup.arrangements import require_arrangement, require_people
from movingup.basics import is_person, require_amount, require_index
from movingup.errors import InvalidPeople
from movingup.moves import after_departures, after_joining, all_open, joining_posts, people_of, posts_under
from movingup.sequences import all_mixed, numbers_behind, sequence_at, sequence_index
from movingup.tallies import number_at


def departures(chart, before, after):
    """Return who left between two arrangements, or why departures do not explain it."""
    require_arrangement(chart, before)
    require_arrangement(chart, after)
    for person in people_of(after):
        if person not in before:
            return ("stranger", person)
    leavers = [person for person in people_of(before) if person not in after]
    remaining = after_departures(chart, before, leavers)
    for post in range(len(chart)):
        if after[post] != remaining[post]:
            return ("never", post)
    return ("leavers", leavers)


def require_newcomers(arrangement, people):
    """Raise InvalidPeople unless this is a list of different people who hold no post."""
    if not isinstance(people, list):
        raise InvalidPeople(None)
    seen = set()
    for k, person in enumerate(people):
        if not is_person(person) or person in arrangement or person in seen:
            raise InvalidPeople(k)
        seen.add(person)


def number_of_earlier(chart, arrangement, count):
    """Return the number of earlier arrangements for so many people."""
    return number_at(all_mixed(numbers_behind(chart), all_open(chart, arrangement)), count)


def count_earlier(chart, arrangement, count):
    """Return the number of earlier arrangements for so many people who hold no post."""
    require_arrangement(chart, arrangement)
    require_amount(count)
    return number_of_earlier(chart, arrangement, count)


def earlier_at(chart, arrangement, people, index):
    """Return the earlier arrangement for some people with this index."""
    require_arrangement(chart, arrangement)
    require_newcomers(arrangement, people)
    require_index(index, number_of_earlier(chart, arrangement, len(people)))
    posts = sequence_at(chart, posts_under(chart), all_open(chart, arrangement), len(people), index)
    earlier = arrangement
    for person, post in zip(sorted(people), posts):
        earlier = after_joining(chart, earlier, person, post)
    return earlier


def each_joined(chart, arrangement, people):
    """Give the arrangements to which people lead who join in the order of their list."""
    if len(people) == 0:
        yield arrangement
        return
    rest = people[1:]
    for post in all_open(chart, arrangement):
        joined = after_joining(chart, arrangement, people[0], post)
        yield from each_joined(chart, joined, rest)


def each_earlier(chart, arrangement, people):
    """Give all earlier arrangements for some people, sorted by their posts of joining."""
    require_arrangement(chart, arrangement)
    require_newcomers(arrangement, people)
    # With an empty post for each of the people, every way to begin can be continued.
    if len(people) <= arrangement.count(None):
        ranked = sorted(people)
        yield from each_joined(chart, arrangement, ranked)


def posts_of_joining(chart, before, people):
    """Return the posts at which people, from the most senior on, join to lead back to this arrangement."""
    require_arrangement(chart, before)
    require_people(before, people)
    return joining_posts(chart, before, people)


def earlier_index(chart, before, people):
    """Return the index of an earlier arrangement among all of them for these people."""
    require_arrangement(chart, before)
    require_people(before, people)
    ready = all_open(chart, after_departures(chart, before, people))
    return sequence_index(chart, posts_under(chart), ready, joining_posts(chart, before, people))
