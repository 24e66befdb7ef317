"""Whether rules hold for all zones of a kind and all arguments, and what breaks those that do not."""

from timeheld.breaks import FOLD_ZONE, GAP_ZONE, arguments_in_fold, arguments_in_gap
from timeheld.conditions import holds_over_folds, holds_over_gaps
from timeheld.errors import BadKind
from timeheld.libraries import check_library
from timeheld.rules import check_rule

KINDS = ("fixed", "skips", "repeats", "both")


def check_kind(value):
    """Raise BadKind unless a value is a kind of zones."""
    if value not in KINDS:
        raise BadKind("not a kind of zones")


def holds(library, kind, rule):
    """Return whether a rule holds for all zones of a kind and all arguments."""
    return counterexample(library, kind, rule) is None


def counterexample(library, kind, rule):
    """Return None if a rule holds, otherwise a pair (zone, arguments) for which it does not."""
    check_library(library)
    check_kind(kind)
    check_rule(rule)
    if kind in ("skips", "both") and not holds_over_gaps(library, rule):
        return (GAP_ZONE, arguments_in_gap(library, rule))
    if kind in ("repeats", "both") and not holds_over_folds(library, rule):
        return (FOLD_ZONE, arguments_in_fold(library, rule))
    return None
