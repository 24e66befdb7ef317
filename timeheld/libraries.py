"""Libraries: what they are, and how they turn instants and readings into times."""

from timeheld.errors import BadLibrary, BadTime
from timeheld.times import instant_of_time, passes_at, time_at, time_read
from timeheld.values import is_between, is_reading, is_tuple_of
from timeheld.zones import check_instant, check_reading, check_zone

# Each tuple is ascending, so that all_libraries() is ascending, too.
SUMS = ("elapsed", "wall")
ORDERS = ("elapsed", "wall")
GAPS = ("keep", "refuse", "shift")
FOLDS = ("both", "first", "refuse", "second")


def is_library(value):
    """Return whether a value is a library."""
    if not is_tuple_of(4, value):
        return False
    sums, order, gap, fold = value
    return sums in SUMS and order in ORDERS and gap in GAPS and fold in FOLDS


def all_libraries():
    """Return the ascending tuple of all libraries."""
    return tuple([(sums, order, gap, fold) for sums in SUMS for order in ORDERS for gap in GAPS for fold in FOLDS])


def check_library(value):
    """Raise BadLibrary unless a value is a library."""
    if not is_library(value):
        raise BadLibrary("not a library")


def is_time(library, zone, value):
    """Return whether a value is a time of a library in a zone."""
    check_library(library)
    check_zone(zone)
    if not is_tuple_of(2, value):
        return False
    reading, turn = value
    if not is_reading(reading) or not is_between(turn, 0, 1):
        return False
    return turn in passes_at(library, zone, reading)


def check_time(library, zone, value):
    """Raise BadTime unless a value is a time of a library in a zone."""
    if not is_time(library, zone, value):
        raise BadTime("not a time of the library in the zone")


def to_instant(library, zone, time):
    """Return the instant of a time."""
    check_time(library, zone, time)
    return instant_of_time(library, zone, time)


def from_instant(library, zone, instant):
    """Return the time with the reading at an instant, or "refused"."""
    check_library(library)
    check_zone(zone)
    check_instant(instant)
    return time_at(library, zone, instant)


def read(library, zone, reading):
    """Return the time that a reading means, or "refused"."""
    check_library(library)
    check_zone(zone)
    check_reading(reading)
    return time_read(library, zone, reading)
