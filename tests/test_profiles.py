"""Promise 12: sets of rules, and which libraries keep them."""

import functools
import itertools
import unittest

import oracle_rules
from samples import (
    AWARE, KINDS, LIBRARIES, NAIVE, NOT_KINDS, NOT_LIBRARIES, NOT_RULES, NOT_TUPLES_OF_RULES, SHAPES, error_of,
)
from timeheld.errors import BadKind, BadLibrary, BadRule, BadRules
from timeheld.profiles import implies, libraries_with, most_rules, parting, profile
from timeheld.rules import rules

RULES = tuple(SHAPES)


@functools.cache
def kept(kind, rule):
    """The libraries in which a rule holds, as the document tells, ascending."""
    return [library for library in LIBRARIES if oracle_rules.holds(library, kind, rule)]


def without(*names):
    """All rules but some, in their order."""
    return tuple(rule for rule in RULES if rule not in names)


class TestExamples(unittest.TestCase):
    def test_examples_of_the_interface(self):
        found = [
            len(profile(("wall", "wall", "keep", "first"), "both")),
            implies("both", "elapsed time", "sum of durations"),
            parting("both", "sum of durations", "elapsed time"),
            libraries_with("both", ("elapsed time", "every reading")), most_rules("both"),
        ]
        expected = [
            12, True, ("wall", "elapsed", "keep", "both"),
            (("elapsed", "elapsed", "keep", "both"), ("elapsed", "wall", "keep", "both")),
            (("elapsed", "elapsed", "shift", "both"),),
        ]
        self.assertEqual(found, expected)
        with self.assertRaises(BadRules):
            libraries_with("both", ("later", "later"))


class TestProfile(unittest.TestCase):
    def test_of_fixed_zones(self):
        for library in LIBRARIES:
            self.assertEqual(profile(library, "fixed"), RULES)

    def test_of_some_libraries(self):
        # Worked out by hand from the two conditions of each rule.
        self.assertEqual(profile(AWARE, "both"), without("every reading", "same clock"))
        self.assertEqual(profile(AWARE, "skips"), without("every reading", "same clock"))
        self.assertEqual(profile(AWARE, "repeats"), without("same clock"))
        self.assertEqual(profile(NAIVE, "both"), without(
            "from universal and back", "to universal and back", "elapsed time", "one instant means equal",
            "one instant, one time", "order of instants",
        ))
        self.assertEqual(profile(NAIVE, "repeats"), without("from universal and back", "elapsed time"))
        self.assertEqual(profile(("wall", "elapsed", "refuse", "refuse"), "both"), (
            "to universal and back", "difference recovers", "order by difference", "equal means one instant",
            "one instant means equal", "one instant, one time", "order of instants",
        ))
        self.assertEqual(profile(("elapsed", "wall", "keep", "second"), "both"), (
            "every reading", "some reading", "later", "sums told", "equal means one instant", "equal sums",
        ))

    def test_as_the_document_tells(self):
        for library, kind in itertools.product(LIBRARIES, KINDS):
            with self.subTest(library=library, kind=kind):
                expected = tuple(rule for rule in RULES if library in kept(kind, rule))
                self.assertEqual(profile(library, kind), expected)
                self.assertIsInstance(profile(library, kind), tuple)

    def test_order_is_that_of_rules(self):
        for library, kind in itertools.product(LIBRARIES, KINDS):
            places = [rules().index(rule) for rule in profile(library, kind)]
            self.assertEqual(places, sorted(set(places)))


class TestImpliesAndParting(unittest.TestCase):
    def test_a_rule_implies_itself(self):
        for kind, rule in itertools.product(KINDS, RULES):
            self.assertIs(implies(kind, rule, rule), True)
            self.assertIsNone(parting(kind, rule, rule))

    def test_fixed_zones_part_no_rules(self):
        for one, other in itertools.product(RULES, RULES):
            self.assertIs(implies("fixed", one, other), True)
            self.assertIsNone(parting("fixed", one, other))

    def test_some_pairs(self):
        # Worked out by hand: the kind, the two rules, and the library that parts them.
        table = (
            ("skips", "every reading", "some reading", None),
            ("skips", "some reading", "every reading", ("elapsed", "elapsed", "shift", "both")),
            ("skips", "to universal and back", "some reading", ("elapsed", "elapsed", "refuse", "both")),
            ("skips", "same clock", "every reading", None),
            ("skips", "every reading", "same clock", ("elapsed", "elapsed", "keep", "both")),
            ("skips", "one instant, one time", "to universal and back", None),
            ("skips", "elapsed time", "one instant means equal", ("elapsed", "wall", "keep", "both")),
            ("repeats", "some reading", "every reading", None),
            ("repeats", "from universal and back", "every reading", None),
            ("repeats", "every reading", "from universal and back", ("elapsed", "elapsed", "keep", "first")),
            ("repeats", "from universal and back", "later", ("elapsed", "wall", "keep", "both")),
            ("repeats", "to universal and back", "sums told", ("elapsed", "elapsed", "keep", "refuse")),
            ("repeats", "same clock", "elapsed time", ("wall", "elapsed", "keep", "both")),
            ("repeats", "there and back", "order kept", ("elapsed", "wall", "keep", "both")),
            ("both", "same clock", "to universal and back", ("wall", "elapsed", "keep", "both")),
            ("both", "order kept", "equal means one instant", ("wall", "wall", "keep", "both")),
            ("both", "elapsed time", "from universal and back", None),
        )
        for kind, one, other, library in table:
            with self.subTest(kind=kind, one=one, other=other):
                self.assertEqual(parting(kind, one, other), library)
                self.assertIs(implies(kind, one, other), library is None)

    def test_as_the_document_tells(self):
        for kind, one, other in itertools.product(KINDS, RULES, RULES):
            with self.subTest(kind=kind, one=one, other=other):
                parted = [library for library in kept(kind, one) if library not in kept(kind, other)]
                self.assertEqual(parting(kind, one, other), min(parted, default=None))
                self.assertIs(implies(kind, one, other), not parted)


class TestLibrariesWith(unittest.TestCase):
    def test_no_rules(self):
        for kind in KINDS:
            self.assertEqual(libraries_with(kind, ()), tuple(LIBRARIES))

    def test_one_rule(self):
        for kind, rule in itertools.product(KINDS, RULES):
            self.assertEqual(libraries_with(kind, (rule,)), tuple(kept(kind, rule)))

    def test_two_rules(self):
        for kind, one, other in itertools.product(KINDS, RULES, RULES):
            if one != other:
                expected = tuple(library for library in kept(kind, one) if library in kept(kind, other))
                self.assertEqual(libraries_with(kind, (one, other)), expected)

    def test_several_rules_in_any_order(self):
        # Worked out by hand.
        wanted = ("sums told", "there and back", "equal sums", "same clock")
        expected = (("wall", "wall", "keep", "first"), ("wall", "wall", "keep", "second"))
        for shuffled in itertools.permutations(wanted):
            self.assertEqual(libraries_with("both", shuffled), expected)

    def test_all_rules(self):
        for wanted in (RULES, RULES[::-1], RULES[7:] + RULES[:7]):
            self.assertEqual(libraries_with("fixed", wanted), tuple(LIBRARIES))
            for kind in ("skips", "repeats", "both"):
                self.assertEqual(libraries_with(kind, wanted), ())

    def test_all_rules_of_a_profile(self):
        for library, kind in itertools.product(LIBRARIES, KINDS):
            found = libraries_with(kind, profile(library, kind))
            expected = [other for other in LIBRARIES if set(profile(other, kind)) >= set(profile(library, kind))]
            self.assertEqual(found, tuple(expected))


class TestMostRules(unittest.TestCase):
    def test_each_kind(self):
        # Counted by hand: 18 rules hold, then 16, 17 and 16.
        self.assertEqual(most_rules("fixed"), tuple(LIBRARIES))
        self.assertEqual(most_rules("skips"), tuple(
            ("elapsed", order, "shift", fold)
            for order in ("elapsed", "wall") for fold in ("both", "first", "refuse", "second")
        ))
        self.assertEqual(most_rules("repeats"), tuple(
            ("elapsed", "elapsed", gap, "both") for gap in ("keep", "refuse", "shift")
        ))
        self.assertEqual(most_rules("both"), (AWARE,))

    def test_as_the_document_tells(self):
        for kind in KINDS:
            counts = [sum(library in kept(kind, rule) for rule in RULES) for library in LIBRARIES]
            expected = [library for library, count in zip(LIBRARIES, counts) if count == max(counts)]
            self.assertEqual(most_rules(kind), tuple(expected))


class TestWrongArguments(unittest.TestCase):
    def assert_error(self, error, function, *arguments):
        with self.subTest(function=function.__name__, arguments=arguments):
            self.assertIs(error_of(function, *arguments), error)

    def test_library(self):
        for wrong in NOT_LIBRARIES:
            self.assert_error(BadLibrary, profile, wrong, "both")

    def test_kind(self):
        for wrong in NOT_KINDS:
            self.assert_error(BadKind, profile, AWARE, wrong)
            self.assert_error(BadKind, implies, wrong, "later", "later")
            self.assert_error(BadKind, parting, wrong, "later", "same clock")
            self.assert_error(BadKind, libraries_with, wrong, ())
            self.assert_error(BadKind, libraries_with, wrong, ("later",))
            self.assert_error(BadKind, most_rules, wrong)

    def test_rule(self):
        for wrong in NOT_RULES:
            for function in (implies, parting):
                for kind in KINDS:
                    self.assert_error(BadRule, function, kind, wrong, "later")
                    self.assert_error(BadRule, function, kind, "later", wrong)
                    self.assert_error(BadRule, function, kind, "elapsed time", wrong)
                    self.assert_error(BadRule, function, kind, wrong, wrong)

    def test_rules(self):
        for wrong in NOT_TUPLES_OF_RULES:
            for kind in KINDS:
                self.assert_error(BadRules, libraries_with, kind, wrong)

    def test_the_same_rule_twice(self):
        for kind, rule in itertools.product(KINDS, RULES):
            self.assert_error(BadRules, libraries_with, kind, (rule, rule))
            self.assert_error(BadRules, libraries_with, kind, RULES + (rule,))

    def test_the_first_wrong_argument_counts(self):
        for wrong in NOT_KINDS:
            self.assert_error(BadLibrary, profile, AWARE[:3], wrong)
            self.assert_error(BadLibrary, profile, list(AWARE), wrong)
        for wrong in NOT_RULES:
            for function in (implies, parting):
                self.assert_error(BadKind, function, "skip", wrong, "later")
                self.assert_error(BadKind, function, ["both"], "later", wrong)
                self.assert_error(BadKind, function, None, wrong, wrong)
        for wrong in NOT_TUPLES_OF_RULES:
            self.assert_error(BadKind, libraries_with, "skip", wrong)
            self.assert_error(BadKind, libraries_with, [], wrong)
