"""How people move up and join. These functions trust their arguments: callers check them."""


def way_down(chart, post):
    """Return the posts from the head down to a post."""
    way = [post]
    while chart[way[-1]] is not None:
        way.append(chart[way[-1]])
    way.reverse()
    return way


def posts_under(chart):
    """Return for each post the list of the posts directly below it."""
    under = [[] for k in chart]
    for k in range(1, len(chart)):
        under[chart[k]].append(k)
    return under


def people_of(arrangement):
    """Return the people who hold posts, from the most senior on."""
    return sorted([person for person in arrangement if person is not None])


def place_of(arrangement, person):
    """Return the post of a person, or None."""
    return arrangement.index(person) if person in arrangement else None


def next_in_line(under, holders, post):
    """Return the post directly below with the most senior holder, or None."""
    held = [(holders[k], k) for k in under[post] if holders[k] is not None]
    if len(held) == 0:
        return None
    return min(held)[1]


def depart(under, holders, person):
    """Let a person leave the list of holders, and return the moves that this causes."""
    moves = []
    vacant = holders.index(person)
    lower = next_in_line(under, holders, vacant)
    while lower is not None:
        holders[vacant] = holders[lower]
        moves.append((holders[lower], lower, vacant))
        vacant = lower
        lower = next_in_line(under, holders, vacant)
    holders[vacant] = None
    return moves


def after_departures(chart, arrangement, leavers):
    """Return the arrangement after some of its people have left."""
    under = posts_under(chart)
    holders = list(arrangement)
    for leaver in leavers:
        depart(under, holders, leaver)
    return tuple(holders)


def is_open(chart, holders, post):
    """Tell whether a post of the chart is open."""
    return holders[post] is None and (post == 0 or holders[chart[post]] is not None)


def all_open(chart, holders):
    """Return the list of the open posts."""
    return [k for k in range(len(chart)) if is_open(chart, holders, k)]


def is_first_open(chart, holders, post):
    """Tell whether a post of the chart is the smallest one that is open."""
    return all_open(chart, holders)[:1] == [post]


def enter(chart, holders, person, post):
    """Let a person join the list of holders at an open post."""
    above = chart[post]
    # Everybody junior on the path is pushed one post down, so the path stays sorted.
    while above is not None and holders[above] > person:
        holders[post] = holders[above]
        post = above
        above = chart[post]
    holders[post] = person


def after_joining(chart, arrangement, person, post):
    """Return the arrangement after a person has joined at an open post."""
    holders = list(arrangement)
    enter(chart, holders, person, post)
    return tuple(holders)


def joining_posts(chart, arrangement, people):
    """Return the posts at which people, from the most senior on, join to lead to this arrangement."""
    under = posts_under(chart)
    holders = list(arrangement)
    posts = []
    # Leaving undoes joining, so it goes the other way round.
    for person in sorted(people, reverse=True):
        post = holders.index(person)
        for move in depart(under, holders, person):
            post = move[1]
        posts.append(post)
    posts.reverse()
    return posts
