"""Tests of plain values against the bounds of arguments."""

MOST_INSTANT = 100000
MOST_READING = 90000
MOST_DURATION = 9000


def is_between(value, low, high):
    """Return whether a value is an integer from low to high."""
    # True and False are instances of int, but not integers here.
    if not isinstance(value, int) or isinstance(value, bool):
        return False
    return low <= value <= high


def is_tuple_of(many, value):
    """Return whether a value is a tuple with so many items."""
    return isinstance(value, tuple) and len(value) == many


def is_instant(value):
    """Return whether a value is an instant within the bounds of arguments."""
    return is_between(value, -MOST_INSTANT, MOST_INSTANT)


def is_reading(value):
    """Return whether a value is a reading within the bounds of arguments."""
    return is_between(value, -MOST_READING, MOST_READING)


def is_duration(value):
    """Return whether a value is a duration within the bounds of arguments."""
    return is_between(value, -MOST_DURATION, MOST_DURATION)
