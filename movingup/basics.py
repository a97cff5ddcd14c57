"""What single values are: whole numbers, posts, people, sizes, indexes, written numbers."""

from movingup.errors import IndexTooLarge, InvalidNumber


def is_whole(value):
    """Tell whether a value is a whole number."""
    return isinstance(value, int) and not isinstance(value, bool)


def is_amount(value):
    """Tell whether a value is a whole number of 0 or more: a size, a count or a price."""
    return is_whole(value) and value >= 0


def is_person(value):
    """Tell whether a value is a person."""
    return is_amount(value)


def is_post(value, count):
    """Tell whether a value is one of so many posts."""
    return is_whole(value) and 0 <= value < count


def is_numeral(word):
    """Tell whether a string is a number as texts and the lines of a desk write it."""
    # isdigit alone takes the digits of all languages.
    if not word.isascii() or not word.isdigit() or len(word) > 18:
        return False
    return word == "0" or not word.startswith("0")


def require_amount(number):
    """Raise InvalidNumber unless this is a whole number of 0 or more."""
    if not is_amount(number):
        raise InvalidNumber(number)


def require_index(index, count):
    """Raise IndexTooLarge unless this is the index of one of so many results."""
    if not is_whole(index) or not 0 <= index < count:
        raise IndexTooLarge(count)
