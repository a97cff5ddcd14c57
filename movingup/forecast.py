"""Forecasts: who will hold a post, and how high people will come."""

from math import comb, factorial

from movingup.arrangements import is_holder, require_arrangement
from movingup.basics import is_post, require_amount
from movingup.charts import posts_below, require_post
from movingup.choices import choice_layers, count_tables, first_state
from movingup.errors import InvalidPerson, InvalidPost
from movingup.moves import people_of, way_down
from movingup.tallies import number_at


def tally_of_leavers(chart, arrangement, person, post):
    """Return the tally of the sets of leavers after which a person stands at a post."""
    wishes = [(person, post)]
    layers = choice_layers(chart, arrangement, wishes, ())
    return count_tables(layers, wishes)[0].get(first_state(wishes), [])


def holders_after(chart, arrangement, post, size):
    """Return who holds a post after how many of all sets of exactly so many leavers."""
    require_arrangement(chart, arrangement)
    require_post(chart, post)
    require_amount(size)
    found = []
    for person in people_of([arrangement[k] for k in posts_below(chart, post)]):
        found.append((person, number_at(tally_of_leavers(chart, arrangement, person, post), size)))
    # Whoever moves up to the post stood below it: after all other sets it is empty.
    held = sum([number for _, number in found])
    found.insert(0, (None, comb(len(people_of(arrangement)), size) - held))
    return [pair for pair in found if pair[1] > 0]


def number_of_sequences(chart, arrangement, person, post):
    """Return in how many sequences of all departures this is the highest post of a person.

    It is the post that the person leaves, and for this only the set of those who left before counts,
    not their order, nor the order of those who leave later.
    """
    others = len(people_of(arrangement)) - 1
    tally = tally_of_leavers(chart, arrangement, person, post)
    return sum([number * factorial(size) * factorial(others - size) for size, number in enumerate(tally)])


def require_holder(chart, arrangement, person):
    """Raise the errors that all questions about one person have in common."""
    require_arrangement(chart, arrangement)
    if not is_holder(arrangement, person):
        raise InvalidPerson(person)


def count_reaching(chart, arrangement, person, post):
    """Return in how many sequences of all departures a person holds the post at some time."""
    require_holder(chart, arrangement, person)
    if not is_post(post, len(chart)) or post not in way_down(chart, arrangement.index(person)):
        raise InvalidPost(post)
    # Nobody skips a post on the way up: whoever comes higher held this one, too.
    return sum([number_of_sequences(chart, arrangement, person, k) for k in way_down(chart, post)])


def highest_posts(chart, arrangement, person):
    """Return for each post from that of a person up to the head in how many sequences it is the highest one."""
    require_holder(chart, arrangement, person)
    way = way_down(chart, arrangement.index(person))
    return [(post, number_of_sequences(chart, arrangement, person, post)) for post in reversed(way)]
