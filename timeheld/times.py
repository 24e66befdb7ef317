"""The times of a valid library in a valid zone, at instants and readings without bounds."""

from timeheld.offsets import instants_with, offset_before_gap, offset_in_force

REFUSED = "refused"

PASSES_IN_GAP = {"keep": (0,), "refuse": (), "shift": ()}
PASSES_IN_FOLD = {"both": (0, 1), "first": (0,), "refuse": (), "second": (0,)}


def passes_at(library, zone, reading):
    """Return the tuple of the passes with which a library has times at a reading."""
    gap, fold = library[2:]
    many = len(instants_with(zone, reading))
    if many == 0:
        return PASSES_IN_GAP[gap]
    if many == 2:
        return PASSES_IN_FOLD[fold]
    return (0,)


def instant_of_time(library, zone, time):
    """Return the instant of a time."""
    reading, turn = time
    instants = instants_with(zone, reading)
    if not instants:
        return reading - offset_before_gap(zone, reading)
    if len(instants) == 2 and library[3] == "second":
        return instants[1]
    # Pass 1 exists only with fold "both", so in every other case this is the first instant.
    return instants[turn]


def time_at(library, zone, instant):
    """Return the time with the reading at an instant, or "refused"."""
    reading = instant + offset_in_force(zone, instant)
    instants = instants_with(zone, reading)
    if len(instants) == 2 and library[3] == "refuse":
        return REFUSED
    if len(instants) == 2 and library[3] == "both":
        return (reading, instants.index(instant))
    return (reading, 0)


def time_read(library, zone, reading):
    """Return the time that a reading means, or "refused"."""
    gap, fold = library[2:]
    many = len(instants_with(zone, reading))
    if many == 0 and gap == "shift":
        return time_at(library, zone, reading - offset_before_gap(zone, reading))
    if many == 0 and gap == "refuse":
        return REFUSED
    if many == 2 and fold == "refuse":
        return REFUSED
    return (reading, 0)
