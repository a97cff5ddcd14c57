"""Charts: tuples that tell for each post the post directly above it."""

from movingup.basics import is_post
from movingup.errors import InvalidChart, InvalidPost
from movingup.moves import way_down


def check_chart(value):
    """Return None for a chart, otherwise the reason why the value is none."""
    if not isinstance(value, tuple) or len(value) == 0 or value[0] is not None:
        return ("shape",)
    for k in range(1, len(value)):
        if not is_post(value[k], k):
            return ("post", k)
    return None


def require_chart(chart):
    """Raise InvalidChart unless this is a chart."""
    reason = check_chart(chart)
    if reason is not None:
        raise InvalidChart(reason)


def require_post(chart, post):
    """Raise InvalidPost unless this is a post of the chart."""
    if not is_post(post, len(chart)):
        raise InvalidPost(post)


def path_to(chart, post):
    """Return the list of the posts from the head down to a post."""
    require_chart(chart)
    require_post(chart, post)
    return way_down(chart, post)


def posts_below(chart, post):
    """Return the list of the posts below a post, which is one of them."""
    require_chart(chart)
    require_post(chart, post)
    found = {post}
    # A post has a greater number than the one above it: one pass finds all.
    for k in range(post + 1, len(chart)):
        if chart[k] in found:
            found.add(k)
    return sorted(found)


def common_post(chart, a, b):
    """Return the last post that the paths to two posts have in common."""
    require_chart(chart)
    require_post(chart, a)
    require_post(chart, b)
    # The post with the greater number is not on the path to the other one.
    while a != b:
        if a > b:
            a = chart[a]
        else:
            b = chart[b]
    return a
