"""Arrangements: who holds which post, and how people leave and join."""

from movingup.basics import is_person, is_post
from movingup.charts import require_chart
from movingup.errors import InvalidArrangement, InvalidPeople, InvalidPerson, InvalidPost
from movingup.moves import (
    after_departures, after_joining, all_open, depart, is_open, people_of, place_of, posts_under)


def check_arrangement(chart, value):
    """Return None for an arrangement of the chart, otherwise why the value is none."""
    require_chart(chart)
    if not isinstance(value, tuple) or len(value) != len(chart):
        return ("shape",)
    for k, person in enumerate(value):
        if person is not None and not is_person(person):
            return ("person", k)
    seen = set()
    for k, person in enumerate(value):
        if person is not None and person in seen:
            return ("twice", k)
        seen.add(person)
    for k in range(1, len(chart)):
        if value[k] is not None and not may_stand_below(value[k], value[chart[k]]):
            return ("order", k)
    return None


def may_stand_below(person, above):
    """Tell whether the post directly above is held, and by somebody more senior."""
    return above is not None and above < person


def require_arrangement(chart, arrangement):
    """Raise InvalidChart or InvalidArrangement unless both are what they should be."""
    reason = check_arrangement(chart, arrangement)
    if reason is not None:
        raise InvalidArrangement(reason)


def is_holder(arrangement, person):
    """Tell whether a value is a person who holds a post."""
    return is_person(person) and person in arrangement


def first_misfit(arrangement, people):
    """Return the index of the first one who holds no post or occurred before, or None."""
    seen = set()
    for k, person in enumerate(people):
        if not is_holder(arrangement, person) or person in seen:
            return k
        seen.add(person)
    return None


def require_leavers(arrangement, people):
    """Raise InvalidPerson unless each of the people holds a post and occurs once."""
    misfit = first_misfit(arrangement, people)
    if misfit is not None:
        raise InvalidPerson(people[misfit])


def require_people(arrangement, people):
    """Raise InvalidPeople unless this is a list of different people who hold posts."""
    if not isinstance(people, list):
        raise InvalidPeople(None)
    misfit = first_misfit(arrangement, people)
    if misfit is not None:
        raise InvalidPeople(misfit)


def post_of(chart, arrangement, person):
    """Return the post of a person, or None."""
    require_arrangement(chart, arrangement)
    if not is_person(person):
        raise InvalidPerson(person)
    return place_of(arrangement, person)


def open_posts(chart, arrangement):
    """Return the list of the open posts."""
    require_arrangement(chart, arrangement)
    return all_open(chart, arrangement)


def leave(chart, arrangement, *people):
    """Return the arrangement after people have left one after the other."""
    require_arrangement(chart, arrangement)
    require_leavers(arrangement, people)
    if len(people) == 0:
        return arrangement
    return after_departures(chart, arrangement, people)


def chain(chart, arrangement, person):
    """Give the moves (mover, old_post, new_post) of a departure, from the top on."""
    require_arrangement(chart, arrangement)
    require_leavers(arrangement, (person,))
    yield from depart(posts_under(chart), list(arrangement), person)


def join(chart, arrangement, person, post):
    """Return the arrangement after a person has joined at an open post."""
    require_arrangement(chart, arrangement)
    if not is_person(person) or person in arrangement:
        raise InvalidPerson(person)
    if not is_post(post, len(chart)) or not is_open(chart, arrangement, post):
        raise InvalidPost(post)
    return after_joining(chart, arrangement, person, post)


def reduced(chart, arrangement, people):
    """Return the arrangement after everybody except for some people has left."""
    require_arrangement(chart, arrangement)
    require_people(arrangement, people)
    leavers = [person for person in people_of(arrangement) if person not in people]
    return after_departures(chart, arrangement, leavers)
