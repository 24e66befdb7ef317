"""Zones: what they are, their offsets and the instants of their readings."""

from timeheld.errors import BadInstant, BadReading, BadZone
from timeheld.offsets import instants_with, offset_in_force
from timeheld.values import is_between, is_instant, is_reading, is_tuple_of

MOST_FIRST_OFFSET = 12
MOST_LATER_OFFSET = 15
MOST_CHANGES = 8
MOST_CHANGE_INSTANT = 1000
LEAST_DISTANCE = 12
MOST_STEP = 3


def is_zone(value):
    """Return whether a value is a zone."""
    if not is_tuple_of(2, value):
        return False
    offset, changes = value
    if not is_between(offset, -MOST_FIRST_OFFSET, MOST_FIRST_OFFSET):
        return False
    if not isinstance(changes, tuple) or len(changes) > MOST_CHANGES:
        return False
    return _are_changes_after(offset, changes)


def _are_changes_after(offset, changes):
    """Return whether the items of a tuple are changes of a zone with a first offset."""
    earliest = -MOST_CHANGE_INSTANT
    for change in changes:
        if not _is_change_after(offset, earliest, change):
            return False
        instant, offset = change
        earliest = instant + LEAST_DISTANCE
    return True


def _is_change_after(before, earliest, value):
    """Return whether a value is a change from an offset, at an earliest instant or later."""
    if not is_tuple_of(2, value):
        return False
    instant, offset = value
    if not is_between(instant, earliest, MOST_CHANGE_INSTANT):
        return False
    if not is_between(offset, -MOST_LATER_OFFSET, MOST_LATER_OFFSET):
        return False
    return 1 <= abs(offset - before) <= MOST_STEP


def check_zone(value):
    """Raise BadZone unless a value is a zone."""
    if not is_zone(value):
        raise BadZone("not a zone")


def check_instant(value):
    """Raise BadInstant unless a value is an instant within the bounds of arguments."""
    if not is_instant(value):
        raise BadInstant("not an instant from -100000 to 100000")


def check_reading(value):
    """Raise BadReading unless a value is a reading within the bounds of arguments."""
    if not is_reading(value):
        raise BadReading("not a reading from -90000 to 90000")


def offset_at(zone, instant):
    """Return the offset in force at an instant."""
    check_zone(zone)
    check_instant(instant)
    return offset_in_force(zone, instant)


def kind_of(zone):
    """Return "fixed", "skips", "repeats" or "both", by what the changes of a zone do."""
    check_zone(zone)
    before, changes = zone
    skips = repeats = False
    for _, after in changes:
        if after > before:
            skips = True
        else:
            repeats = True
        before = after
    if skips and repeats:
        return "both"
    if skips:
        return "skips"
    return "repeats" if repeats else "fixed"


def instants_of(zone, reading):
    """Return the ascending tuple of the instants with a reading."""
    check_zone(zone)
    check_reading(reading)
    return instants_with(zone, reading)
