"""Offices: people come and go, and steps can be taken back."""

from movingup.arrangements import is_holder, join, leave, require_arrangement
from movingup.basics import is_amount, is_person
from movingup.changes import played
from movingup.charts import require_chart
from movingup.errors import InvalidNumber, InvalidPeople, InvalidPerson, InvalidPost, NothingToUndo
from movingup.moves import is_first_open, people_of, place_of
from movingup.orders import require_order


def require_ranked(people, count):
    """Raise InvalidPeople unless this is a list of so many people, from the most senior on."""
    if not isinstance(people, list) or len(people) != count:
        raise InvalidPeople(None)
    for k, person in enumerate(people):
        if not is_person(person) or (k > 0 and person <= people[k - 1]):
            raise InvalidPeople(k)


class Office:
    """An office: an arrangement that changes step by step."""

    WORDS = ("leave", "join")

    def __init__(self, chart, arrangement):
        require_arrangement(chart, arrangement)
        self._chart = chart
        # The arrangements at the beginning and after each step, and the plans of the steps.
        self._rows = [arrangement]
        self._plans = []

    @classmethod
    def in_order(cls, chart, order, people):
        """Return a new office in which the k-th post of an order is held by the k-th person of a list."""
        require_order(chart, order)
        require_ranked(people, len(chart))
        holders = dict(zip(order, people))
        return cls(chart, tuple([holders[post] for post in range(len(chart))]))

    @classmethod
    def vacant(cls, chart):
        """Return a new office without people."""
        require_chart(chart)
        return cls(chart, (None,) * len(chart))

    @property
    def chart(self):
        """The chart."""
        return self._chart

    @property
    def arrangement(self):
        """The current arrangement."""
        return self._rows[-1]

    @property
    def people(self):
        """A new list of all people who hold posts."""
        return people_of(self._rows[-1])

    @property
    def head(self):
        """The person who holds the head, or None."""
        return self._rows[-1][0]

    def leave(self, *people):
        """Let people leave one after the other, and return the new arrangement."""
        after = self.preview(*people)
        return self._keep([("leave", person) for person in people], after)

    def admit(self, person, post):
        """Let a person join at an open post, and return the new arrangement."""
        after = join(self._chart, self._rows[-1], person, post)
        return self._keep([("join", person, post)], after)

    def play(self, plan):
        """Carry out a plan as one step, and return the new arrangement."""
        return self._keep(plan, played(self._chart, self._rows[-1], plan))

    def _keep(self, plan, after):
        """Keep a step, and return the arrangement after it."""
        self._plans.append(tuple(plan))
        self._rows.append(after)
        return after

    def undo(self):
        """Take back the last step."""
        if len(self._plans) == 0:
            raise NothingToUndo()
        self._plans.pop()
        self._rows.pop()

    def preview(self, *people):
        """Return the arrangement that leave would return."""
        now = self._rows[-1]
        return leave(self._chart, now, *people)

    def rehearse(self, plan):
        """Return the arrangement that play would return."""
        return played(self._chart, self._rows[-1], plan)

    def log(self):
        """Return the plan of all steps that have been made and not undone."""
        return [step for plan in self._plans for step in plan]

    def at(self, step):
        """Return the arrangement after so many of the steps that can be undone."""
        if not is_amount(step) or step > len(self._plans):
            raise InvalidNumber(step)
        return self._rows[step]

    def posts_of(self, person):
        """Return the posts of a person at the beginning and after each step, None without a post."""
        if not is_person(person):
            raise InvalidPerson(person)
        return [place_of(row, person) for row in self._rows]

    def copy(self):
        """Return an independent office of the same class in the same state."""
        # Called off the object, the class method makes an office of the object's own class.
        twin = self.vacant(self._chart)
        twin._rows = list(self._rows)
        twin._plans = list(self._plans)
        return twin

    def __len__(self):
        return len(self._plans)

    def __contains__(self, x):
        return is_holder(self._rows[-1], x)

    def __eq__(self, other):
        return isinstance(other, Office) and self.chart == other.chart and self.arrangement == other.arrangement


class StrictOffice(Office):
    """An office in which people join at the smallest open post only."""

    def admit(self, person, post):
        """Let a person join at the smallest open post, and return the new arrangement."""
        now = self._rows[-1]
        after = join(self._chart, now, person, post)
        if not is_first_open(self._chart, now, post):
            raise InvalidPost(post)
        return self._keep([("join", person, post)], after)

    def play(self, plan):
        """Carry out a plan as one step, and return the new arrangement."""
        return self._keep(plan, played(self._chart, self._rows[-1], plan, True))

    def rehearse(self, plan):
        """Return the arrangement that play would return."""
        return played(self._chart, self._rows[-1], plan, True)
