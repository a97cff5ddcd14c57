"""Orders: how senior the holders of all posts can be."""

from math import factorial

from movingup.arrangements import require_arrangement
from movingup.basics import is_post, require_index
from movingup.charts import require_chart
from movingup.errors import InvalidOrder
from movingup.moves import people_of, posts_under
from movingup.sequences import opened


def check_order(chart, value):
    """Return None for an order of the chart, otherwise the reason why the value is none."""
    require_chart(chart)
    if not isinstance(value, list) or len(value) != len(chart):
        return ("shape",)
    seen = set()
    for k, post in enumerate(value):
        if not is_post(post, len(chart)) or post in seen:
            return ("post", k)
        if post != 0 and chart[post] not in seen:
            return ("post", k)
        seen.add(post)
    return None


def require_order(chart, order):
    """Raise InvalidChart or InvalidOrder unless both are what they should be."""
    reason = check_order(chart, order)
    if reason is not None:
        raise InvalidOrder(reason)


def sizes_below(chart):
    """Return for each post the number of posts below it, also itself."""
    sizes = [1 for k in chart]
    for k in range(len(chart) - 1, 0, -1):
        sizes[chart[k]] += sizes[k]
    return sizes


def number_of_orders(sizes):
    """Return the number of orders of a chart with these numbers of posts below each post."""
    divisor = 1
    for size in sizes:
        divisor = divisor * size
    return factorial(len(sizes)) // divisor


def count_orders(chart):
    """Return the number of all orders."""
    require_chart(chart)
    return number_of_orders(sizes_below(chart))


def order_at(chart, index):
    """Return the order with this index in the sorted list of all orders."""
    require_chart(chart)
    sizes = sizes_below(chart)
    number = number_of_orders(sizes)
    require_index(index, number)
    under = posts_under(chart)
    ready = [0]
    order = []
    while len(order) < len(chart):
        left = len(chart) - len(order)
        for post in ready:
            # Without its first post, an order is one of fewer posts: the formula of point 46 again.
            after = number * sizes[post] // left
            if index < after:
                break
            index -= after
        order.append(post)
        number = after
        ready = opened(under, ready, post)
    return order


def order_index(chart, order):
    """Return the index of an order in the sorted list of all orders."""
    require_order(chart, order)
    sizes = sizes_below(chart)
    number = number_of_orders(sizes)
    under = posts_under(chart)
    ready = [0]
    index = 0
    for k, post in enumerate(order):
        left = len(chart) - k
        for other in ready:
            if other < post:
                index += number * sizes[other] // left
        number = number * sizes[post] // left
        ready = opened(under, ready, post)
    return index


def order_of(chart, arrangement):
    """Return the held posts, from the one of the most senior person on."""
    require_arrangement(chart, arrangement)
    return [arrangement.index(person) for person in people_of(arrangement)]
