"""The rules: their names, the shapes of their arguments, and whether they hold for arguments."""

from timeheld.errors import BadArguments, BadRule
from timeheld.libraries import check_library, is_time
from timeheld.statements import is_true_of
from timeheld.values import is_between, is_instant, is_reading, is_tuple_of
from timeheld.zones import check_zone

# Less than elsewhere, so that the durations that a rule adds up stay small, too.
MOST_DURATION_OF_RULES = 4000

# In the order of the document, which is that of rules().
SHAPES = {
    "from universal and back": ("instant",),
    "to universal and back": ("time",),
    "every reading": ("reading",),
    "some reading": ("reading",),
    "there and back": ("time", "duration"),
    "sum of durations": ("time", "duration", "duration"),
    "elapsed time": ("time", "duration"),
    "same clock": ("time",),
    "later": ("time", "duration"),
    "sums told": ("time", "duration"),
    "difference recovers": ("time", "time"),
    "order by difference": ("time", "time"),
    "equal means one instant": ("time", "time"),
    "one instant means equal": ("time", "time"),
    "one instant, one time": ("time", "time"),
    "order of instants": ("time", "time"),
    "order kept": ("time", "time", "duration"),
    "equal sums": ("time", "time", "duration"),
}


def rules():
    """Return the tuple of the names of all rules."""
    return tuple(SHAPES)


def is_rule(value):
    """Return whether a value is the name of a rule."""
    return isinstance(value, str) and value in SHAPES


def check_rule(value):
    """Raise BadRule unless a value is the name of a rule."""
    if not is_rule(value):
        raise BadRule("not the name of a rule")


def shape(rule):
    """Return the tuple of the words for the arguments of a rule."""
    check_rule(rule)
    return SHAPES[rule]


def holds_for(library, zone, rule, arguments):
    """Return whether a rule holds for a tuple of arguments."""
    check_library(library)
    check_zone(zone)
    check_rule(rule)
    if not _are_arguments(library, zone, SHAPES[rule], arguments):
        raise BadArguments("not a tuple of arguments of the rule")
    return is_true_of(library, zone, rule, arguments)


def _are_arguments(library, zone, words, value):
    """Return whether a value is a tuple of arguments as some words ask for."""
    if not is_tuple_of(len(words), value):
        return False
    return all([_is_argument(library, zone, word, item) for word, item in zip(words, value)])


def _is_argument(library, zone, word, value):
    """Return whether a value is an argument as a word asks for."""
    if word == "instant":
        return is_instant(value)
    if word == "reading":
        return is_reading(value)
    if word == "time":
        return is_time(library, zone, value)
    return is_between(value, -MOST_DURATION_OF_RULES, MOST_DURATION_OF_RULES)
