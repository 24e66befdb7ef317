"""Zones written as texts, and read from them."""

from timeheld.errors import InvalidText, NotText
from timeheld.integers import integer_of
from timeheld.zones import check_zone, is_zone


def check_text(value):
    """Raise NotText unless a value is a string."""
    if not isinstance(value, str):
        raise NotText("not a string")


def write_zone(zone):
    """Return the text of a zone."""
    check_zone(zone)
    offset, changes = zone
    return " ".join([str(offset)] + [f"{instant}:{after}" for instant, after in changes])


def read_zone(text):
    """Return the zone of a text."""
    check_text(text)
    first, *others = text.split(" ")
    # A wrong word becomes a change with None in it, or with too few or too many parts: is_zone finds it.
    zone = (integer_of(first), tuple([_change_of(word) for word in others]))
    if not is_zone(zone):
        raise InvalidText("not the text of a zone")
    return zone


def _change_of(word):
    return tuple([integer_of(part) for part in word.split(":")])
