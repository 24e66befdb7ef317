"""Adding durations to times, subtracting times and comparing them."""

from timeheld.arithmetic import hours_between, order_of, time_after
from timeheld.errors import BadDuration
from timeheld.libraries import check_time
from timeheld.values import is_duration


def check_duration(value):
    """Raise BadDuration unless a value is a duration within the bounds of arguments."""
    if not is_duration(value):
        raise BadDuration("not a duration from -9000 to 9000")


def add(library, zone, time, duration):
    """Return the time that is a duration after a time, or "refused"."""
    check_time(library, zone, time)
    check_duration(duration)
    return time_after(library, zone, time, duration)


def subtract(library, zone, one, other):
    """Return the difference one - other of two times."""
    check_time(library, zone, one)
    check_time(library, zone, other)
    return hours_between(library, zone, one, other)


def compare(library, zone, one, other):
    """Return -1, 0 or 1 as one time is less than, equal to or greater than another."""
    check_time(library, zone, one)
    check_time(library, zone, other)
    return order_of(library, zone, one, other)
