"""The sentences of DOC.md, points 2 to 7, told again as plainly and slowly as can be.

Nothing of the package is used here, so that the tests compare two independent programs.
"""

import functools


def offset(zone, instant):
    """The offset of the last change at or before an instant, or the first one."""
    past = [after for at, after in zone[1] if at <= instant]
    return past[-1] if past else zone[0]


@functools.cache
def instants(zone, reading):
    """All instants with a reading: no offset is beyond 15 hours."""
    return tuple(at for at in range(reading - 15, reading + 16) if at + offset(zone, at) == reading)


def skipping_offset(zone, reading):
    """The offset in force before the change that skips a reading."""
    for at, _ in zone[1]:
        if reading in range(at + offset(zone, at - 1), at + offset(zone, at)):
            return offset(zone, at - 1)
    raise AssertionError("no change skips this reading")


def passes(library, zone, reading):
    """The passes of the times with a reading."""
    _, _, gap, fold = library
    many = len(instants(zone, reading))
    if many == 1:
        return [0]
    if many == 0:
        return [0] if gap == "keep" else []
    return {"refuse": [], "first": [0], "second": [0], "both": [0, 1]}[fold]


def to_instant(library, zone, time):
    """The instant of a time."""
    reading, turn = time
    found = instants(zone, reading)
    if len(found) == 0:
        return reading - skipping_offset(zone, reading)
    if len(found) == 1:
        return found[0]
    return found[{"first": 0, "second": 1, "both": turn}[library[3]]]


def from_instant(library, zone, instant):
    """The time with the reading at an instant."""
    reading = instant + offset(zone, instant)
    found = instants(zone, reading)
    if len(found) == 2 and library[3] == "refuse":
        return "refused"
    if len(found) == 2 and library[3] == "both":
        return (reading, 0 if instant == found[0] else 1)
    return (reading, 0)


def read(library, zone, reading):
    """The time that a reading means."""
    _, _, gap, fold = library
    many = len(instants(zone, reading))
    if many == 1:
        return (reading, 0)
    if many == 2:
        return "refused" if fold == "refuse" else (reading, 0)
    if gap == "keep":
        return (reading, 0)
    if gap == "refuse":
        return "refused"
    return from_instant(library, zone, reading - skipping_offset(zone, reading))


def add(library, zone, time, duration):
    """A time plus a duration."""
    if library[0] == "wall":
        return read(library, zone, time[0] + duration)
    return from_instant(library, zone, to_instant(library, zone, time) + duration)


def subtract(library, zone, one, other):
    """The difference of two times."""
    if library[0] == "wall":
        return one[0] - other[0]
    return to_instant(library, zone, one) - to_instant(library, zone, other)


def compare(library, zone, one, other):
    """The order of two times."""
    if library[1] == "wall":
        first, second = one[0], other[0]
    else:
        first, second = to_instant(library, zone, one), to_instant(library, zone, other)
    if first < second:
        return -1
    return 1 if first > second else 0


def times(library, zone, readings):
    """The times with some readings."""
    return [(reading, turn) for reading in readings for turn in passes(library, zone, reading)]


def near(zone):
    """Integers at and around each change of a zone and its readings, and a few far away."""
    found = {-100, -1, 0, 1, 100}
    for at, _ in zone[1]:
        found.update(range(at - 20, at + 21))
    return sorted(found)
