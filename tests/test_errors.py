"""Promise 1: the errors, and what holds for all functions of the package."""

import copy
import unittest

from samples import (
    AWARE, NOT_DURATIONS, NOT_INTEGERS, NOT_KINDS, NOT_LIBRARIES, NOT_RULES, NOT_STRINGS, NOT_TIMES,
    NOT_TUPLES_OF_RULES, NOT_ZONES, ZONE, error_of,
)
from timeheld import decisions, desks, errors, libraries, profiles, rules, sums, texts, zones

NAMES = (
    "BadZone", "BadInstant", "BadReading", "BadLibrary", "BadTime", "BadDuration", "BadRule", "BadArguments",
    "BadKind", "BadRules", "NotText", "InvalidText", "NotNow", "NothingToUndo",
)


class TestErrors(unittest.TestCase):
    def test_base_class_is_a_direct_subclass_of_value_error(self):
        self.assertEqual(errors.TimeError.__bases__, (ValueError,))

    def test_all_errors_are_direct_subclasses_of_time_error(self):
        for name in NAMES:
            with self.subTest(name=name):
                self.assertEqual(getattr(errors, name).__bases__, (errors.TimeError,))

    def test_no_other_errors_are_defined(self):
        defined = [name for name, value in vars(errors).items() if isinstance(value, type)]
        self.assertEqual(sorted(defined), sorted(NAMES + ("TimeError",)))

    def test_errors_are_defined_under_their_names_in_their_file(self):
        for name in NAMES + ("TimeError",):
            with self.subTest(name=name):
                self.assertEqual(getattr(errors, name).__name__, name)
                self.assertEqual(getattr(errors, name).__module__, "timeheld.errors")

    def test_errors_have_no_fields(self):
        for name in NAMES:
            with self.subTest(name=name):
                self.assertEqual(vars(getattr(errors, name)("told")), {})

    def test_errors_are_caught_as_time_error_and_as_value_error(self):
        with self.assertRaises(errors.TimeError):
            zones.kind_of(0)
        with self.assertRaises(ValueError):
            zones.kind_of(0)


class TestArguments(unittest.TestCase):
    def test_wrong_arguments_are_not_modified(self):
        calls = [(zones.is_zone, wrong) for wrong in NOT_ZONES]
        calls += [(zones.kind_of, wrong) for wrong in NOT_ZONES]
        calls += [(zones.offset_at, wrong, [0]) for wrong in NOT_ZONES]
        calls += [(zones.instants_of, ZONE, wrong) for wrong in NOT_INTEGERS]
        calls += [(libraries.is_library, wrong) for wrong in NOT_LIBRARIES]
        calls += [(libraries.is_time, AWARE, ZONE, wrong) for wrong in NOT_TIMES]
        calls += [(libraries.to_instant, AWARE, ZONE, wrong) for wrong in NOT_TIMES]
        calls += [(libraries.read, wrong, list(ZONE), {}) for wrong in NOT_LIBRARIES]
        calls += [(sums.add, AWARE, ZONE, (0, 0), wrong) for wrong in NOT_DURATIONS]
        calls += [(sums.subtract, AWARE, ZONE, (0, 0), wrong) for wrong in NOT_TIMES]
        calls += [(sums.compare, AWARE, ZONE, wrong, [0, 0]) for wrong in NOT_TIMES]
        calls += [(rules.shape, wrong) for wrong in NOT_RULES]
        calls += [(rules.holds_for, AWARE, ZONE, "order kept", [wrong, [0, 0], {}]) for wrong in NOT_TIMES]
        calls += [(rules.holds_for, AWARE, ZONE, "same clock", (wrong,)) for wrong in NOT_TIMES]
        calls += [(decisions.holds, AWARE, wrong, ["later"]) for wrong in NOT_KINDS]
        calls += [(decisions.counterexample, AWARE, "both", wrong) for wrong in NOT_RULES]
        calls += [(profiles.profile, wrong, ["both"]) for wrong in NOT_LIBRARIES]
        calls += [(profiles.implies, "both", wrong, ["later"]) for wrong in NOT_RULES]
        calls += [(profiles.parting, wrong, ["later"], {}) for wrong in NOT_KINDS]
        calls += [(profiles.libraries_with, "both", wrong) for wrong in NOT_TUPLES_OF_RULES]
        calls += [(profiles.most_rules, wrong) for wrong in NOT_KINDS]
        calls += [(texts.write_zone, wrong) for wrong in NOT_ZONES]
        calls += [(texts.read_zone, wrong) for wrong in NOT_STRINGS]
        calls += [(desks.Desk, wrong, list(ZONE)) for wrong in NOT_LIBRARIES]
        calls += [(desks.Desk, AWARE, wrong) for wrong in NOT_ZONES]
        calls += [(desks.Desk(AWARE, ZONE).run, wrong) for wrong in NOT_STRINGS]
        for function, *arguments in calls:
            with self.subTest(function=function.__name__, arguments=arguments):
                before = copy.copy(arguments), repr(arguments)
                error_of(function, *arguments)
                self.assertEqual((arguments, repr(arguments)), before)

    def test_deep_and_long_values_raise_the_named_error(self):
        deep = ()
        for _ in range(50000):
            deep = (deep, deep)
        long = (0,) * 100000
        for wrong in (deep, long, [long] * 3, (0, long), (0, (deep,)), (0, deep), (deep, ())):
            self.assertIs(zones.is_zone(wrong), False)
            self.assertIs(error_of(zones.kind_of, wrong), errors.BadZone)
            self.assertIs(error_of(libraries.read, wrong, ZONE, 0), errors.BadLibrary)
            self.assertIs(error_of(libraries.read, AWARE, ZONE, wrong), errors.BadReading)
            self.assertIs(error_of(libraries.to_instant, AWARE, ZONE, wrong), errors.BadTime)
            self.assertIs(error_of(sums.add, AWARE, ZONE, (0, 0), wrong), errors.BadDuration)
            self.assertIs(error_of(sums.subtract, AWARE, ZONE, (0, 0), wrong), errors.BadTime)
            self.assertIs(error_of(sums.compare, AWARE, ZONE, wrong, wrong), errors.BadTime)
            self.assertIs(error_of(rules.shape, wrong), errors.BadRule)
            for rule in rules.rules():
                self.assertIs(error_of(rules.holds_for, AWARE, ZONE, rule, wrong), errors.BadArguments)
            self.assertIs(error_of(decisions.holds, AWARE, wrong, wrong), errors.BadKind)
            self.assertIs(error_of(decisions.counterexample, AWARE, "both", wrong), errors.BadRule)
            self.assertIs(error_of(profiles.implies, "both", wrong, wrong), errors.BadRule)
            self.assertIs(error_of(profiles.libraries_with, "both", wrong), errors.BadRules)
            self.assertIs(error_of(profiles.libraries_with, "both", ("later", wrong)), errors.BadRules)
            self.assertIs(error_of(profiles.most_rules, wrong), errors.BadKind)
            self.assertIs(error_of(texts.write_zone, wrong), errors.BadZone)
            self.assertIs(error_of(texts.read_zone, wrong), errors.NotText)
            self.assertIs(error_of(desks.Desk, wrong, wrong), errors.BadLibrary)
            self.assertIs(error_of(desks.Desk(AWARE, ZONE).run, wrong), errors.NotText)

    def test_a_call_that_raises_changes_nothing(self):
        before = libraries.read(AWARE, ZONE, 1)
        self.assertIs(error_of(libraries.read, AWARE, ZONE, None), errors.BadReading)
        self.assertEqual(libraries.read(AWARE, ZONE, 1), before)
        before = rules.rules(), decisions.counterexample(AWARE, "both", "same clock")
        self.assertIs(error_of(rules.holds_for, AWARE, ZONE, "same clock", (0,)), errors.BadArguments)
        self.assertIs(error_of(decisions.counterexample, AWARE, "both", "Same clock"), errors.BadRule)
        self.assertEqual((rules.rules(), decisions.counterexample(AWARE, "both", "same clock")), before)
        desk = desks.Desk(AWARE, ZONE)
        desk.run("instant 5")
        for function, wrong in ((desk.run, None), (desk.run, "add"), (desk.run, "add 9001")):
            self.assertIsNotNone(error_of(function, wrong))
            self.assertEqual([desk.time, desk.run("when")], [(7, 0), "5"])
        desk.undo()
        self.assertIs(error_of(desk.undo), errors.NothingToUndo)
        self.assertEqual(desk.time, (-499, 0))
