"""Standing: which posts people come to, and how many moves it takes."""

from movingup.arrangements import is_holder, require_arrangement, require_people
from movingup.errors import InvalidPerson
from movingup.moves import after_departures, depart, posts_under


def require_remaining(chart, arrangement, leavers, person):
    """Raise an error unless the leavers can leave and the person remains."""
    require_arrangement(chart, arrangement)
    require_people(arrangement, leavers)
    if not is_holder(arrangement, person) or person in leavers:
        raise InvalidPerson(person)


def post_after(chart, arrangement, leavers, person):
    """Return the post of a person after the leavers have left."""
    require_remaining(chart, arrangement, leavers, person)
    return after_departures(chart, arrangement, leavers).index(person)


def career(chart, arrangement, leavers, person):
    """Return the posts of a person at the beginning and after each departure."""
    require_remaining(chart, arrangement, leavers, person)
    under = posts_under(chart)
    holders = list(arrangement)
    posts = [holders.index(person)]
    for leaver in leavers:
        depart(under, holders, leaver)
        posts.append(holders.index(person))
    return posts


def total_moves(chart, arrangement, leavers):
    """Return the number of moves that departures in this order cause."""
    under = posts_under(chart)
    holders = list(arrangement)
    total = 0
    for leaver in leavers:
        total += len(depart(under, holders, leaver))
    return total


def count_moves(chart, arrangement, leavers):
    """Return how many moves are made when the leavers leave in their order."""
    require_arrangement(chart, arrangement)
    require_people(arrangement, leavers)
    return total_moves(chart, arrangement, leavers)


def moves_range(chart, arrangement, leavers):
    """Return the least and the greatest number of moves over all orders of the leavers."""
    require_arrangement(chart, arrangement)
    require_people(arrangement, leavers)
    # Who remains moves equally far in any order. A leaver moves only for leavers who
    # are more senior and go earlier: never if these go later, farthest if all go earlier.
    least = total_moves(chart, arrangement, sorted(leavers, reverse=True))
    greatest = total_moves(chart, arrangement, sorted(leavers))
    return (least, greatest)
