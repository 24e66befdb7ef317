"""Sums, differences and comparisons of a library's valid times, without the bounds of arguments."""

from timeheld.times import instant_of_time, time_at, time_read


def place_of(way, library, zone, time):
    """Return where a time stands: its reading for the way "wall", its instant for "elapsed"."""
    if way == "wall":
        return time[0]
    return instant_of_time(library, zone, time)


def time_after(library, zone, time, duration):
    """Return a time plus a duration, or "refused"."""
    sums = library[0]
    place = place_of(sums, library, zone, time) + duration
    if sums == "wall":
        return time_read(library, zone, place)
    return time_at(library, zone, place)


def hours_between(library, zone, one, other):
    """Return the difference one - other of two times."""
    sums = library[0]
    return place_of(sums, library, zone, one) - place_of(sums, library, zone, other)


def order_of(library, zone, one, other):
    """Return -1, 0 or 1 as one time is less than, equal to or greater than another."""
    order = library[1]
    left = place_of(order, library, zone, one)
    right = place_of(order, library, zone, other)
    if left == right:
        return 0
    return -1 if left < right else 1
