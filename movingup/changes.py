"""Plans and changes: people leave and join so that one arrangement becomes another one."""

from movingup.arrangements import require_arrangement
from movingup.basics import is_person, is_post, require_amount
from movingup.charts import common_post, require_chart
from movingup.errors import InvalidPlan, PlanBlocked
from movingup.moves import (
    depart, enter, is_first_open, is_open, joining_posts, people_of, posts_under, way_down)
from movingup.tallies import added, multiplied, number_at


def is_step(chart, value):
    """Tell whether a value is a step whose person is a person and whose post is a post of the chart."""
    if not isinstance(value, tuple) or len(value) == 0:
        return False
    if value[0] == "leave":
        return len(value) == 2 and is_person(value[1])
    if value[0] == "join":
        return len(value) == 3 and is_person(value[1]) and is_post(value[2], len(chart))
    return False


def check_plan(chart, value):
    """Return None for a plan, otherwise the reason why the value is none."""
    require_chart(chart)
    if not isinstance(value, list):
        return ("plan",)
    for k, step in enumerate(value):
        if not is_step(chart, step):
            return ("step", k)
    return None


def is_possible(chart, holders, step, strict):
    """Tell whether a step of a plan is possible; if strict, people join at the smallest open post only."""
    if step[0] == "leave":
        return step[1] in holders
    if step[1] in holders:
        return False
    if strict:
        return is_first_open(chart, holders, step[2])
    return is_open(chart, holders, step[2])


def carried_out(chart, arrangement, plan, strict=False):
    """Return the arrangement after a plan, and None or the index of the step at which it stops."""
    under = posts_under(chart)
    holders = list(arrangement)
    for k, step in enumerate(plan):
        if not is_possible(chart, holders, step, strict):
            return (tuple(holders), k)
        if step[0] == "leave":
            depart(under, holders, step[1])
        else:
            enter(chart, holders, step[1], step[2])
    return (tuple(holders), None)


def played(chart, arrangement, plan, strict=False):
    """Return the arrangement after all steps of a plan, which is checked first."""
    reason = check_plan(chart, plan)
    if reason is not None:
        raise InvalidPlan(reason)
    after, blocked = carried_out(chart, arrangement, plan, strict)
    if blocked is not None:
        raise PlanBlocked(blocked)
    return after


def play(chart, arrangement, plan):
    """Return the arrangement after all steps of a plan."""
    require_arrangement(chart, arrangement)
    return played(chart, arrangement, plan)


def require_both(chart, before, after):
    """Raise the errors that all questions about two arrangements have in common."""
    require_arrangement(chart, before)
    require_arrangement(chart, after)


def lowest_stays(chart, before, after):
    """Return for all who hold posts in both, from the most senior on, the person and the lowest post to stay at."""
    both = [person for person in people_of(before) if person in after]
    return [(person, common_post(chart, before.index(person), after.index(person))) for person in both]


def largest_stayers(chart, before, after):
    """Return a largest list of people who can stay.

    Whoever takes a post takes it from all juniors, and of these the posts directly below go on
    independently. So from the most junior person on, each post gets the best list of people who
    can be placed at and below it once the posts above are taken.
    """
    under = posts_under(chart)
    best = [[] for post in chart]
    for person, lowest in reversed(lowest_stays(chart, before, after)):
        # From the head down: the lists of the posts directly below are still those of juniors alone.
        for post in way_down(chart, lowest):
            placed = [person]
            for lower in under[post]:
                placed = placed + best[lower]
            if len(placed) > len(best[post]):
                best[post] = placed
    return sorted(best[0])


def stay_tally(chart, before, after):
    """Return the tally of the sets of people who can stay; see largest_stayers."""
    under = posts_under(chart)
    tallies = [[1] for post in chart]
    for _, lowest in reversed(lowest_stays(chart, before, after)):
        for post in way_down(chart, lowest):
            placed = [0, 1]
            for lower in under[post]:
                placed = multiplied(placed, tallies[lower])
            tallies[post] = added(tallies[post], placed)
    return tallies[0]


def largest_stay(chart, before, after):
    """Return a largest list of people who can stay while one arrangement becomes another one."""
    require_both(chart, before, after)
    return largest_stayers(chart, before, after)


def least_steps(chart, before, after):
    """Return the fewest steps of a plan that leads from one arrangement to another one."""
    staying = largest_stayers(chart, before, after)
    return len(people_of(before)) + len(people_of(after)) - 2 * len(staying)


def count_changes(chart, before, after):
    """Return the fewest steps of a plan that leads from one arrangement to another one."""
    require_both(chart, before, after)
    return least_steps(chart, before, after)


def fewest_changes(chart, before, after):
    """Return a plan with the fewest steps that leads from one arrangement to another one."""
    require_both(chart, before, after)
    staying = largest_stayers(chart, before, after)
    leaving = [person for person in people_of(before) if person not in staying]
    joining = [person for person in people_of(after) if person not in staying]
    posts = joining_posts(chart, after, joining)
    return [("leave", person) for person in leaving] + [
        ("join", person, post) for person, post in zip(joining, posts)]


def check_changes(chart, before, after, claim):
    """Return None for a plan with the fewest steps, otherwise the reason why the claim is none."""
    require_both(chart, before, after)
    if check_plan(chart, claim) is not None:
        return ("form",)
    end, blocked = carried_out(chart, before, claim)
    if blocked is not None:
        return ("blocked", blocked)
    if end != after:
        return ("end",)
    if len(claim) > least_steps(chart, before, after):
        return ("length",)
    return None


def count_stays(chart, before, after, size):
    """Return how many sets of exactly so many people can stay."""
    require_both(chart, before, after)
    require_amount(size)
    return number_at(stay_tally(chart, before, after), size)
