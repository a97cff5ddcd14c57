"""The errors of the package; the fields tell what is wrong."""


class MovingUpError(ValueError):
    """The base class of all errors of the package."""


class InvalidChart(MovingUpError):
    """A chart that is none; the reason is the result of check_chart."""

    def __init__(self, reason=None):
        self.reason = reason


class InvalidArrangement(MovingUpError):
    """An arrangement that is none; the reason is the result of check_arrangement."""

    def __init__(self, reason=None):
        self.reason = reason


class InvalidPost(MovingUpError):
    """Something that is not a post of the chart, or a post that does not fit."""

    def __init__(self, post=None):
        self.post = post


class InvalidPerson(MovingUpError):
    """Something that is not a person, or a person who does not fit."""

    def __init__(self, person=None):
        self.person = person


class InvalidPeople(MovingUpError):
    """People who do not fit; the index is None if they are not a list at all."""

    def __init__(self, index=None):
        self.index = index


class InvalidWishes(MovingUpError):
    """Wishes that are not valid; the reason is the result of check_wishes."""

    def __init__(self, reason=None):
        self.reason = reason


class InvalidOrder(MovingUpError):
    """An order that is none; the reason is the result of check_order."""

    def __init__(self, reason=None):
        self.reason = reason


class InvalidPlan(MovingUpError):
    """A plan that is none; the reason is the result of check_plan."""

    def __init__(self, reason=None):
        self.reason = reason


class PlanBlocked(MovingUpError):
    """A plan with a step that is not possible; the index is that of the first one."""

    def __init__(self, index=None):
        self.index = index


class InvalidNumber(MovingUpError):
    """A size or a count that is not a whole number of 0 or more."""

    def __init__(self, number=None):
        self.number = number


class IndexTooLarge(MovingUpError):
    """An index that no result has; the count is the number of possible results."""

    def __init__(self, count=None):
        self.count = count


class InvalidPrices(MovingUpError):
    """Prices that do not fit; the person is None if the keys are not those asked for."""

    def __init__(self, person=None):
        self.person = person


class InvalidText(MovingUpError):
    """A text that shows no arrangement; the line is None if it is not a string."""

    def __init__(self, line=None):
        self.line = line


class InvalidLine(MovingUpError):
    """A line that a desk does not understand."""


class NothingToUndo(MovingUpError):
    """An office without a step that can be undone."""
