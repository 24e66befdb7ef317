"""A desk that keeps one time of a library in a zone, and changes and tells it line by line."""

from timeheld.arithmetic import time_after
from timeheld.errors import InvalidText, NothingToUndo, NotNow
from timeheld.integers import integer_of
from timeheld.libraries import check_library
from timeheld.texts import check_text
from timeheld.times import REFUSED, instant_of_time, time_at, time_read
from timeheld.values import is_duration, is_instant, is_reading
from timeheld.zones import check_zone

FIRST_INSTANT = -500


class Desk:
    """A time that lines change and tell."""

    def __init__(self, library, zone):
        check_library(library)
        check_zone(zone)
        self._library = library
        self._zone = zone
        # The time at first, and that after each line that can be taken back.
        self._times = [time_at(library, zone, FIRST_INSTANT)]

    @property
    def time(self):
        """The time, or "refused"."""
        return self._times[-1]

    def run(self, line):
        """Carry out a line, and return what it tells, None if it changes the time."""
        check_text(line)
        if line == "show":
            return _reading_told(self.time)
        if line == "when":
            return _instant_told(self._library, self._zone, self.time)
        word, _, digits = line.partition(" ")
        number = integer_of(digits)
        if number is None or word not in ("instant", "read", "add"):
            raise InvalidText("not a line of a desk")
        self._times.append(self._time_by(word, number))
        return None

    def _time_by(self, word, number):
        """Return the time that a line with a word and an integer makes, or "refused"."""
        library, zone = self._library, self._zone
        if word == "instant" and is_instant(number):
            return time_at(library, zone, number)
        if word == "read" and is_reading(number):
            return time_read(library, zone, number)
        if word == "add" and is_duration(number) and self.time != REFUSED:
            return time_after(library, zone, self.time, number)
        raise NotNow("the integer is out of bounds, or the time is refused")

    def undo(self):
        """Take back the last line that changed the time."""
        if len(self._times) == 1:
            raise NothingToUndo("no line to take back")
        del self._times[-1]


def _reading_told(time):
    """Return the text of a time's reading, with a mark in pass 1."""
    if time == REFUSED:
        return REFUSED
    reading, turn = time
    return f"{reading}'" if turn == 1 else str(reading)


def _instant_told(library, zone, time):
    """Return the text of a time's instant."""
    if time == REFUSED:
        return REFUSED
    return str(instant_of_time(library, zone, time))
