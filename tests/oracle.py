"""The sentences of DOC.md, points 2 to 6, told again as plainly and slowly as can be.

Nothing of the package is used here, so that the tests compare two independent programs.
"""


def offset(zone, instant):
    """The offset of the last change at or before an instant, or the first one."""
    past = [after for at, after in zone[1] if at <= instant]
    return past[-1] if past else zone[0]


def instants(zone, reading):
    """All instants with a reading: no offset is beyond 15 hours."""
    return tuple(at for at in range(reading - 15, reading + 16) if at + offset(zone, at) == reading)


def skipping_offset(zone, reading):
    """The offset in force before the change that skips a reading."""
    for at, _ in zone[1]:
        if reading in range(at + offset(zone, at - 1), at + offset(zone, at)):
            return offset(zone, at - 1)
    raise AssertionError("no change skips this reading")


def passes(library, zone, reading):
    """The passes of the times with a reading."""
    _, _, gap, fold = library
    many = len(instants(zone, reading))
    if many == 1:
        return [0]
    if many == 0:
        return [0] if gap == "keep" else []
    return {"refuse": [], "first": [0], "second": [0], "both": [0, 1]}[fold]


def to_instant(library, zone, time):
    """The instant of a time."""
    reading, turn = time
    found = instants(zone, reading)
    if len(found) == 0:
        return reading - skipping_offset(zone, reading)
    if len(found) == 1:
        return found[0]
    return found[{"first": 0, "second": 1, "both": turn}[library[3]]]


def from_instant(library, zone, instant):
    """The time with the reading at an instant."""
    reading = instant + offset(zone, instant)
    found = instants(zone, reading)
    if len(found) == 2 and library[3] == "refuse":
        return "refused"
    if len(found) == 2 and library[3] == "both":
        return (reading, 0 if instant == found[0] else 1)
    return (reading, 0)


def read(library, zone, reading):
    """The time that a reading means."""
    _, _, gap, fold = library
    many = len(instants(zone, reading))
    if many == 1:
        return (reading, 0)
    if many == 2:
        return "refused" if fold == "refuse" else (reading, 0)
    if gap == "keep":
        return (reading, 0)
    if gap == "refuse":
        return "refused"
    return from_instant(library, zone, reading - skipping_offset(zone, reading))


def near(zone):
    """Integers at and around each change of a zone and its readings, and a few far away."""
    found = {-100, -1, 0, 1, 100}
    for at, _ in zone[1]:
        found.update(range(at - 20, at + 21))
    return sorted(found)
