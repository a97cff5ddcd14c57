"""Wishes: which departures bring people to given posts."""

from movingup.arrangements import first_misfit, is_holder, require_arrangement
from movingup.basics import is_amount, is_post, require_amount, require_index
from movingup.choices import cheapest_set, choice_layers, count_tables, first_state, number_of_sets, set_at
from movingup.errors import InvalidPeople, InvalidPrices, InvalidWishes
from movingup.moves import people_of, way_down


def has_shape(value):
    """Tell whether a value is a list of one to three tuples of two items."""
    if not isinstance(value, list) or not 1 <= len(value) <= 3:
        return False
    return all([isinstance(item, tuple) and len(item) == 2 for item in value])


def check_wishes(chart, arrangement, value):
    """Return None for valid wishes, otherwise the reason why the value is none."""
    require_arrangement(chart, arrangement)
    if not has_shape(value):
        return ("shape",)
    for k, (person, post) in enumerate(value):
        if not is_holder(arrangement, person) or (k > 0 and person <= value[k - 1][0]):
            return ("person", k)
        if not is_post(post, len(chart)) or post not in way_down(chart, arrangement.index(person)):
            return ("post", k)
    return None


def require_staying(arrangement, staying):
    """Raise InvalidPeople unless this is a tuple of different people who hold posts."""
    if not isinstance(staying, tuple):
        raise InvalidPeople(None)
    misfit = first_misfit(arrangement, staying)
    if misfit is not None:
        raise InvalidPeople(misfit)


def require_wishes(chart, arrangement, wishes, staying):
    """Raise the errors that all questions about wishes have in common."""
    reason = check_wishes(chart, arrangement, wishes)
    if reason is not None:
        raise InvalidWishes(reason)
    require_staying(arrangement, staying)


def require_prices(arrangement, prices):
    """Raise InvalidPrices unless this is a dictionary of prices of exactly the people who hold posts."""
    people = people_of(arrangement)
    if not isinstance(prices, dict) or len(prices) != len(people):
        raise InvalidPrices(None)
    for person in prices:
        if not is_holder(arrangement, person):
            raise InvalidPrices(None)
    for person in people:
        if not is_amount(prices[person]):
            raise InvalidPrices(person)


def count_leavers(chart, arrangement, wishes, size, *, staying=()):
    """Return how many sets of exactly so many leavers fulfil the wishes."""
    require_wishes(chart, arrangement, wishes, staying)
    require_amount(size)
    layers = choice_layers(chart, arrangement, wishes, staying)
    return number_of_sets(count_tables(layers, wishes)[0], first_state(wishes), size)


def leavers_at(chart, arrangement, wishes, size, index, *, staying=()):
    """Return the set with this index of those that count_leavers counts."""
    require_wishes(chart, arrangement, wishes, staying)
    require_amount(size)
    layers = choice_layers(chart, arrangement, wishes, staying)
    tables = count_tables(layers, wishes)
    start = first_state(wishes)
    require_index(index, number_of_sets(tables[0], start, size))
    return set_at(people_of(arrangement), layers, tables, start, size, index)


def each_leavers(chart, arrangement, wishes, size, *, staying=()):
    """Give the sets that count_leavers counts, in ascending order."""
    require_wishes(chart, arrangement, wishes, staying)
    require_amount(size)
    layers = choice_layers(chart, arrangement, wishes, staying)
    tables = count_tables(layers, wishes)
    start = first_state(wishes)
    people = people_of(arrangement)
    for index in range(number_of_sets(tables[0], start, size)):
        yield set_at(people, layers, tables, start, size, index)


def fewest_leavers(chart, arrangement, wishes, *, staying=()):
    """Return the first one of the smallest sets that fulfil the wishes, or None."""
    require_wishes(chart, arrangement, wishes, staying)
    layers = choice_layers(chart, arrangement, wishes, staying)
    tables = count_tables(layers, wishes)
    start = first_state(wishes)
    people = people_of(arrangement)
    for size in range(len(people)):
        if number_of_sets(tables[0], start, size) > 0:
            return set_at(people, layers, tables, start, size, 0)
    return None


def cheapest_leavers(chart, arrangement, wishes, prices, *, staying=()):
    """Return the least sum of prices of a set that fulfils the wishes, and the first such set, or None."""
    require_wishes(chart, arrangement, wishes, staying)
    require_prices(arrangement, prices)
    layers = choice_layers(chart, arrangement, wishes, staying)
    return cheapest_set(people_of(arrangement), layers, wishes, prices)
