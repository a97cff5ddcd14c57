"""How people move up. These functions trust their arguments: callers check them."""


def posts_under(chart):
    """Return for each post the list of the posts directly below it."""
    under = [[] for k in chart]
    for k in range(1, len(chart)):
        under[chart[k]].append(k)
    return under


def next_in_line(under, holders, post):
    """Return the post directly below with the most senior holder, or None."""
    held = [(holders[k], k) for k in under[post] if holders[k] is not None]
    if len(held) == 0:
        return None
    return min(held)[1]


def depart(under, holders, person):
    """Let a person leave the list of holders, and return the moves that this causes."""
    moves = []
    vacant = holders.index(person)
    lower = next_in_line(under, holders, vacant)
    while lower is not None:
        holders[vacant] = holders[lower]
        moves.append((holders[lower], lower, vacant))
        vacant = lower
        lower = next_in_line(under, holders, vacant)
    holders[vacant] = None
    return moves


def after_departures(chart, arrangement, leavers):
    """Return the arrangement after some of its people have left."""
    under = posts_under(chart)
    holders = list(arrangement)
    for leaver in leavers:
        depart(under, holders, leaver)
    return tuple(holders)
