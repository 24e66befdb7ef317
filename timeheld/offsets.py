"""The offsets of a valid zone, at instants and readings without bounds."""


def offset_in_force(zone, instant):
    """Return the offset in force at an instant."""
    offset, changes = zone
    for start, after in changes:
        if start > instant:
            break
        offset = after
    return offset


def instants_with(zone, reading):
    """Return the ascending tuple of the instants with a reading."""
    offset, changes = zone
    offsets = [offset] + [after for _, after in changes]
    # A set, because a zone may come back to an offset that it had before.
    return tuple(sorted({reading - hours for hours in offsets if offset_in_force(zone, reading - hours) == hours}))


def offset_before_gap(zone, reading):
    """Return the offset before the change that skips a reading, None if no change skips it."""
    before, changes = zone
    for start, after in changes:
        if start + before <= reading < start + after:
            return before
        before = after
    return None
