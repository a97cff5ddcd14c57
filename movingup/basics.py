"""What single values are: whole numbers, posts, people."""


def is_whole(value):
    """Tell whether a value is a whole number."""
    return isinstance(value, int) and not isinstance(value, bool)


def is_person(value):
    """Tell whether a value is a person."""
    return is_whole(value) and value >= 0


def is_post(value, count):
    """Tell whether a value is one of so many posts."""
    return is_whole(value) and 0 <= value < count
