"""What each of the eighteen rules states of valid arguments, which may lie beyond their bounds.

A refused operation breaks a rule, unless the rule's premise is false. No operation takes
"refused" as an operand, so each result is tested before the next operation.
"""

from timeheld.arithmetic import hours_between, order_of, time_after
from timeheld.times import REFUSED, instant_of_time, time_at, time_read

HOURS_OF_A_DAY = 24


def _from_universal_and_back(library, zone, instant):
    time = time_at(library, zone, instant)
    return time != REFUSED and instant_of_time(library, zone, time) == instant


def _to_universal_and_back(library, zone, time):
    return time_at(library, zone, instant_of_time(library, zone, time)) == time


def _every_reading(library, zone, reading):
    time = time_read(library, zone, reading)
    return time != REFUSED and time[0] == reading


def _some_reading(library, zone, reading):
    return time_read(library, zone, reading) != REFUSED


def _there_and_back(library, zone, time, duration):
    there = time_after(library, zone, time, duration)
    return there != REFUSED and time_after(library, zone, there, -duration) == time


def _sum_of_durations(library, zone, time, duration, more):
    between = time_after(library, zone, time, duration)
    if between == REFUSED:
        return False
    by_steps = time_after(library, zone, between, more)
    return by_steps != REFUSED and by_steps == time_after(library, zone, time, duration + more)


def _elapsed_time(library, zone, time, duration):
    later = time_after(library, zone, time, duration)
    if later == REFUSED:
        return False
    return instant_of_time(library, zone, later) - instant_of_time(library, zone, time) == duration


def _same_clock(library, zone, time):
    later = time_after(library, zone, time, HOURS_OF_A_DAY)
    return later != REFUSED and later[0] == time[0] + HOURS_OF_A_DAY


def _later(library, zone, time, duration):
    if duration <= 0:
        return True
    later = time_after(library, zone, time, duration)
    return later != REFUSED and order_of(library, zone, time, later) == -1


def _sums_told(library, zone, time, duration):
    return time_after(library, zone, time, duration) != REFUSED


def _difference_recovers(library, zone, one, other):
    return time_after(library, zone, one, hours_between(library, zone, other, one)) == other


def _order_by_difference(library, zone, one, other):
    is_less = order_of(library, zone, one, other) == -1
    return is_less == (hours_between(library, zone, other, one) > 0)


def _have_one_instant(library, zone, one, other):
    return instant_of_time(library, zone, one) == instant_of_time(library, zone, other)


def _equal_means_one_instant(library, zone, one, other):
    return order_of(library, zone, one, other) != 0 or _have_one_instant(library, zone, one, other)


def _one_instant_means_equal(library, zone, one, other):
    return not _have_one_instant(library, zone, one, other) or order_of(library, zone, one, other) == 0


def _one_instant_one_time(library, zone, one, other):
    return not _have_one_instant(library, zone, one, other) or one == other


def _order_of_instants(library, zone, one, other):
    is_less = order_of(library, zone, one, other) == -1
    return is_less == (instant_of_time(library, zone, one) < instant_of_time(library, zone, other))


def _order_kept(library, zone, one, other, duration):
    if order_of(library, zone, one, other) != -1:
        return True
    return _are_sums_in_order(-1, library, zone, one, other, duration)


def _equal_sums(library, zone, one, other, duration):
    if order_of(library, zone, one, other) != 0:
        return True
    return _are_sums_in_order(0, library, zone, one, other, duration)


def _are_sums_in_order(wanted, library, zone, one, other, duration):
    """Return whether the sums of two times and a duration are told and compare as wanted."""
    left = time_after(library, zone, one, duration)
    right = time_after(library, zone, other, duration)
    if left == REFUSED or right == REFUSED:
        return False
    return order_of(library, zone, left, right) == wanted


STATEMENTS = {
    "from universal and back": _from_universal_and_back,
    "to universal and back": _to_universal_and_back,
    "every reading": _every_reading,
    "some reading": _some_reading,
    "there and back": _there_and_back,
    "sum of durations": _sum_of_durations,
    "elapsed time": _elapsed_time,
    "same clock": _same_clock,
    "later": _later,
    "sums told": _sums_told,
    "difference recovers": _difference_recovers,
    "order by difference": _order_by_difference,
    "equal means one instant": _equal_means_one_instant,
    "one instant means equal": _one_instant_means_equal,
    "one instant, one time": _one_instant_one_time,
    "order of instants": _order_of_instants,
    "order kept": _order_kept,
    "equal sums": _equal_sums,
}


def is_true_of(library, zone, rule, arguments):
    """Return whether a rule holds for a tuple of arguments."""
    statement = STATEMENTS[rule]
    return statement(library, zone, *arguments)
