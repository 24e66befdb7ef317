"""Sets of rules: what a library keeps, which rule implies which, and which libraries keep wanted rules."""

from timeheld.decisions import check_kind, holds
from timeheld.errors import BadRules
from timeheld.libraries import all_libraries, check_library
from timeheld.rules import check_rule, is_rule, rules


def check_rules(value):
    """Raise BadRules unless a value is a tuple of different rules."""
    if not isinstance(value, tuple) or not all([is_rule(item) for item in value]):
        raise BadRules("not a tuple of rules")
    if len(set(value)) < len(value):
        raise BadRules("a rule comes twice")


def profile(library, kind):
    """Return the tuple of the rules that hold, in the order of rules()."""
    check_library(library)
    check_kind(kind)
    return tuple([rule for rule in rules() if holds(library, kind, rule)])


def implies(kind, one, other):
    """Return whether every library in which a rule holds also keeps another one."""
    return parting(kind, one, other) is None


def parting(kind, one, other):
    """Return the least library in which a rule holds and another one does not, None if there is none."""
    check_kind(kind)
    check_rule(one)
    check_rule(other)
    for library in all_libraries():
        if holds(library, kind, one) and not holds(library, kind, other):
            return library
    return None


def libraries_with(kind, wanted):
    """Return the ascending tuple of the libraries in which all wanted rules hold."""
    check_kind(kind)
    check_rules(wanted)
    return tuple([library for library in all_libraries() if _keeps_all(library, kind, wanted)])


def _keeps_all(library, kind, wanted):
    return all([holds(library, kind, rule) for rule in wanted])


def most_rules(kind):
    """Return the ascending tuple of the libraries in which the most rules hold."""
    check_kind(kind)
    counts = {library: len(profile(library, kind)) for library in all_libraries()}
    most = max(counts.values())
    return tuple([library for library in counts if counts[library] == most])
