"""Promises 10 and 11: whether rules hold for all zones of a kind, and what breaks those that do not."""

import itertools
import unittest

import oracle
import oracle_rules
from samples import AWARE, KINDS, LIBRARIES, NAIVE, NOT_KINDS, NOT_LIBRARIES, NOT_RULES, REPEAT, SHAPES, SKIP, error_of
from timeheld.decisions import counterexample, holds
from timeheld.errors import BadKind, BadLibrary, BadRule
from timeheld.rules import holds_for
from timeheld.zones import kind_of

# Of each kind some zones, each with readings at and near its gaps and folds.
NEAR = {
    "fixed": (((0, ()), (-1, 0, 1)),),
    "skips": ((SKIP, (-2, -1, 0, 1, 2)), ((0, ((0, 3), (12, 6))), (-1, 0, 3, 15, 18))),
    "repeats": ((REPEAT, (-3, -2, -1, 0)), ((0, ((0, -3), (12, -6))), (-4, -3, -1, 6, 8, 9))),
    "both": (((0, ((0, 3), (12, 0))), (-1, 0, 3, 12, 14, 15)), ((0, ((0, -3), (12, 0))), (-4, -3, -1, 9, 11, 12))),
}

DURATIONS = (-24, -12, -3, -1, 0, 1, 2, 3, 12, 24)


def cases():
    return itertools.product(LIBRARIES, KINDS, SHAPES)


class TestExamples(unittest.TestCase):
    def test_examples_of_the_interface(self):
        found = [
            holds(AWARE, "both", "elapsed time"), holds(AWARE, "both", "same clock"),
            counterexample(AWARE, "both", "same clock"), counterexample(AWARE, "repeats", "same clock"),
            counterexample(AWARE, "both", "elapsed time"),
        ]
        expected = [True, False, ((0, ((0, 2),)), ((-1, 0),)), ((0, ((0, -2),)), ((-3, 0),)), None]
        self.assertEqual(found, expected)
        with self.assertRaises(BadKind):
            holds(AWARE, "skip", "later")


class TestHolds(unittest.TestCase):
    def test_by_the_two_conditions(self):
        for library, kind, rule in cases():
            with self.subTest(library=library, kind=kind, rule=rule):
                self.assertIs(holds(library, kind, rule), oracle_rules.holds(library, kind, rule))

    def test_every_rule_holds_for_fixed_zones(self):
        for library in LIBRARIES:
            self.assertEqual([rule for rule in SHAPES if not holds(library, "fixed", rule)], [])

    def test_both_asks_for_both_conditions(self):
        for library in LIBRARIES:
            for rule in SHAPES:
                each = holds(library, "skips", rule) and holds(library, "repeats", rule)
                self.assertIs(holds(library, "both", rule), each)

    def test_numbers_of_libraries(self):
        # Counted by hand from the conditions; of the 48, 24 have each word of sums, 16 of gap, 12 of fold.
        self.assertEqual(sum(holds(library, "skips", "every reading") for library in LIBRARIES), 16)
        self.assertEqual(sum(holds(library, "skips", "there and back") for library in LIBRARIES), 8 + 16)
        self.assertEqual(sum(holds(library, "skips", "later") for library in LIBRARIES), 24 + 8 + 4)
        self.assertEqual(sum(holds(library, "repeats", "there and back") for library in LIBRARIES), 12 + 6)
        self.assertEqual(sum(holds(library, "repeats", "later") for library in LIBRARIES), 12 + 6 + 6)
        self.assertEqual(sum(holds(library, "repeats", "order kept") for library in LIBRARIES), 12 + 3 + 3)
        self.assertEqual(sum(holds(library, "both", "elapsed time") for library in LIBRARIES), 6)

    def test_rules_that_hold_are_never_broken(self):
        for library, kind, rule in cases():
            if not holds(library, kind, rule):
                continue
            for zone, readings in NEAR[kind]:
                self.assertEqual(kind_of(zone), kind)
                times = oracle.times(library, zone, readings)
                words = {"instant": range(-6, 18), "reading": range(-6, 18), "time": times, "duration": DURATIONS}
                for arguments in itertools.product(*[words[word] for word in SHAPES[rule]]):
                    self.assertIs(holds_for(library, zone, rule, arguments), True, (library, zone, rule, arguments))


class TestCounterexample(unittest.TestCase):
    def test_none_exactly_where_a_rule_holds(self):
        for library, kind, rule in cases():
            self.assertIs(counterexample(library, kind, rule) is None, holds(library, kind, rule))
            self.assertIs(counterexample(library, kind, rule) is None, oracle_rules.holds(library, kind, rule))

    def test_zone_and_arguments_of_the_document(self):
        for library, kind, rule in cases():
            with self.subTest(library=library, kind=kind, rule=rule):
                expected = oracle_rules.counterexample(library, kind, rule)
                self.assertEqual(repr(counterexample(library, kind, rule)), repr(expected))

    def test_the_rule_does_not_hold_for_it(self):
        for library, kind, rule in cases():
            found = counterexample(library, kind, rule)
            if found is not None:
                with self.subTest(library=library, kind=kind, rule=rule, found=found):
                    zone, arguments = found
                    self.assertIs(holds_for(library, zone, rule, arguments), False)
                    self.assertIs(oracle_rules.holds_for(library, zone, rule, arguments), False)

    def test_zone_is_of_the_kind_or_has_one_change(self):
        for library, kind, rule in cases():
            found = counterexample(library, kind, rule)
            if found is not None:
                zones = {"skips": [SKIP], "repeats": [REPEAT], "both": [SKIP, REPEAT]}[kind]
                self.assertIn(found[0], zones)

    def test_gaps_come_before_folds(self):
        library = ("wall", "wall", "refuse", "refuse")
        self.assertEqual(counterexample(library, "skips", "some reading"), (SKIP, (0,)))
        self.assertEqual(counterexample(library, "repeats", "some reading"), (REPEAT, (-1,)))
        self.assertEqual(counterexample(library, "both", "some reading"), (SKIP, (0,)))
        library = ("wall", "wall", "keep", "refuse")
        self.assertEqual(counterexample(library, "both", "some reading"), (REPEAT, (-1,)))


class TestWrongArguments(unittest.TestCase):
    def assert_error(self, error, *arguments):
        for function in (holds, counterexample):
            with self.subTest(function=function.__name__, arguments=arguments):
                self.assertIs(error_of(function, *arguments), error)

    def test_library(self):
        for wrong in NOT_LIBRARIES:
            self.assert_error(BadLibrary, wrong, "both", "later")

    def test_kind(self):
        for wrong in NOT_KINDS:
            self.assert_error(BadKind, AWARE, wrong, "later")
            self.assert_error(BadKind, NAIVE, wrong, "to universal and back")

    def test_rule(self):
        for wrong in NOT_RULES:
            for kind in KINDS:
                self.assert_error(BadRule, AWARE, kind, wrong)

    def test_the_first_wrong_argument_counts(self):
        for wrong in NOT_RULES + ("later",):
            self.assert_error(BadLibrary, AWARE[:3], "skip", wrong)
            self.assert_error(BadLibrary, list(AWARE), "both", wrong)
            self.assert_error(BadKind, AWARE, "skip", wrong)
            self.assert_error(BadKind, AWARE, ["both"], wrong)
