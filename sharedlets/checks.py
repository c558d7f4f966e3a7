"""Checks of numbers that all stages share."""

from sharedlets.errors import InvalidNumber


def is_whole(value):
    """Whether the value is an integer; True and False are none."""
    return isinstance(value, int) and not isinstance(value, bool)


def is_below(value, limit):
    """Whether the value is an integer from 0 to less than the limit."""
    return is_whole(value) and 0 <= value < limit


def check_below(value, limit):
    """Raise InvalidNumber if the value is not an integer from 0 to less than the limit."""
    if not is_below(value, limit):
        raise InvalidNumber(value)


def check_many(value):
    """Raise InvalidNumber if the value is not an integer of at least 0."""
    if not is_whole(value) or value < 0:
        raise InvalidNumber(value)
