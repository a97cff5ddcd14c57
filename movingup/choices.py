"""Choices: who leaves and who remains, from the most senior person on, so that wishes come true.

A state tells for each wish the post that its person has reached so far, going down from the head
as in point 30, or DONE when that person remained and stands at the wished post. There are few
states, though there are many sets of leavers. These functions trust their arguments.
"""

from movingup.moves import people_of, way_down
from movingup.tallies import added, number_at

DONE = -1


def first_state(wishes):
    """Return the state in which everybody still starts at the head."""
    return (0,) * len(wishes)


def last_state(wishes):
    """Return the state in which all wishes are fulfilled."""
    return (DONE,) * len(wishes)


def steps_down(chart, post):
    """Return a dict that leads from each post above a post one step down towards it."""
    path = way_down(chart, post)
    return dict(zip(path[:-1], path[1:]))


def further(wish, steps, person, path, post):
    """Return how far the person of a wish gets when a person remains, or None if the wish is lost."""
    wished, goal = wish
    if person == wished:
        return DONE if post == goal else None
    if post not in path:
        return post
    # At the wished post there is no further step: one more is one too many.
    return steps.get(post)


def after_remaining(wishes, steps, person, path, state):
    """Return the state after a person remains, or None if a wish is lost."""
    reached = [further(wish, down, person, path, post) for wish, down, post in zip(wishes, steps, state)]
    if None in reached:
        return None
    return tuple(reached)


def next_states(layer):
    """Return the states to which a layer leads, each of them once."""
    found = {}
    for after in layer.values():
        for state in after:
            if state is not None:
                found[state] = True
    return list(found)


def choice_layers(chart, arrangement, wishes, staying):
    """Return for each person a dict: for a state the states if this person leaves, and if not.

    None stands for a choice that cannot be made.
    """
    steps = [steps_down(chart, post) for _, post in wishes]
    bound = [person for person, _ in wishes] + list(staying)
    states = [first_state(wishes)]
    layers = []
    for person in people_of(arrangement):
        path = way_down(chart, arrangement.index(person))
        layer = {}
        for state in states:
            left = None if person in bound else state
            layer[state] = (left, after_remaining(wishes, steps, person, path, state))
        layers.append(layer)
        states = next_states(layer)
    return layers


def count_tables(layers, wishes):
    """Return for each person, and behind the last one, a dict: for a state the tally of its sets.

    These are the sets of people from this one on that fulfil the wishes; states without any such
    set are left out.
    """
    tables = [{last_state(wishes): [1]}]
    for k in range(len(layers) - 1, -1, -1):
        later = tables[-1]
        table = {}
        for state, (left, remained) in layers[k].items():
            if left in later:
                table[state] = added([0] + later[left], later.get(remained, []))
            elif remained in later:
                table[state] = later[remained]
        tables.append(table)
    tables.reverse()
    return tables


def number_of_sets(table, state, size):
    """Return how many sets of exactly this size a table has for a state."""
    return number_at(table.get(state, []), size)


def set_at(people, layers, tables, state, size, index):
    """Return the set with this index among all sets of exactly this size."""
    leavers = []
    for k, person in enumerate(people):
        left, remained = layers[k][state]
        # Of two lists the one with the more senior person at the first difference comes first.
        number = number_of_sets(tables[k + 1], left, size - len(leavers) - 1)
        if index < number:
            leavers.append(person)
            state = left
        else:
            index -= number
            state = remained
    return leavers


def cheapest_set(people, layers, wishes, prices):
    """Return the least sum of prices and the first set with this sum, or None if there is no set."""
    best = {last_state(wishes): (0, [])}
    for k in range(len(layers) - 1, -1, -1):
        person = people[k]
        found = {}
        for state, (left, remained) in layers[k].items():
            options = []
            if left in best:
                total, leavers = best[left]
                options.append((total + prices[person], [person] + leavers))
            if remained in best:
                options.append(best[remained])
            if len(options) > 0:
                found[state] = min(options)
        best = found
    return best.get(first_state(wishes))
