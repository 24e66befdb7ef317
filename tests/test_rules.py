"""Promises 8 and 9: the rules, their shapes, and whether they hold for arguments."""

import itertools
import unittest

import oracle
import oracle_rules
from samples import (
    AWARE, BIG, LIBRARIES, NAIVE, NOT_DURATIONS, NOT_INTEGERS, NOT_LIBRARIES, NOT_RULES, NOT_TIMES, NOT_ZONES, REPEAT,
    SHAPES, SKIP, ZONE, error_of,
)
from timeheld.errors import BadArguments, BadLibrary, BadRule, BadZone
from timeheld.rules import holds_for, rules, shape

# Libraries in short: sums and order by a letter, then gap and fold.
WAYS = {"E": "elapsed", "W": "wall"}


def library_of(text):
    ways, gap, fold = text.split()
    return (WAYS[ways[0]], WAYS[ways[1]], gap, fold)


# Of each rule, by hand: library, zone, arguments; first those for which it holds, with a false premise at the end,
# then those for which it does not, with a refused operation at the end.
HOLDS = {
    "from universal and back": [
        ("EE keep both", REPEAT, (-2,)), ("EE keep both", REPEAT, (0,)), ("WW shift first", REPEAT, (-2,)),
        ("EW refuse second", REPEAT, (1,)), ("WE refuse refuse", REPEAT, (2,)), ("WE refuse refuse", SKIP, (0,)),
        ("WE keep refuse", SKIP, (100000,)), ("WE keep refuse", SKIP, (-100000,)),
    ],
    "to universal and back": [
        ("EE keep both", SKIP, ((2, 0),)), ("WW keep first", SKIP, ((-1, 0),)), ("EE keep both", REPEAT, ((-1, 1),)),
        ("WE keep first", REPEAT, ((-1, 0),)), ("EW shift second", REPEAT, ((-1, 0),)),
    ],
    "every reading": [
        ("EE keep refuse", SKIP, (0,)), ("WW keep both", SKIP, (1,)), ("WE refuse first", REPEAT, (-1,)),
        ("EW shift both", REPEAT, (-2,)), ("EW shift refuse", SKIP, (2,)), ("WE refuse refuse", REPEAT, (90000,)),
        ("WE refuse refuse", REPEAT, (-90000,)),
    ],
    "some reading": [
        ("EE keep refuse", SKIP, (0,)), ("WW shift both", SKIP, (1,)), ("WE refuse second", REPEAT, (-1,)),
        ("EW refuse refuse", SKIP, (2,)), ("EW refuse refuse", REPEAT, (0,)),
    ],
    "there and back": [
        ("WW keep first", SKIP, ((-1, 0), 1)), ("EE shift both", SKIP, ((-1, 0), 1)),
        ("WE refuse refuse", SKIP, ((-1, 0), 3)), ("EW refuse both", REPEAT, ((-1, 1), -1)),
        ("WE keep second", REPEAT, ((-1, 0), 1)), ("WE keep both", REPEAT, ((-1, 0), -1)),
        ("WE shift both", SKIP, ((-1, 0), 0)), ("WE keep both", SKIP, ((0, 0), 4000)),
        ("WE keep both", SKIP, ((0, 0), -4000)),
    ],
    "sum of durations": [
        ("WW keep first", SKIP, ((-1, 0), 1, 2)), ("EE shift both", SKIP, ((-1, 0), 1, 2)),
        ("WE shift second", REPEAT, ((0, 0), -1, 1)), ("EW keep both", REPEAT, ((-1, 0), 1, 3)),
        ("EE keep both", (0, ()), ((90000, 0), 4000, 4000)), ("WE refuse refuse", SKIP, ((-1, 0), 3, 1)),
        ("EE keep both", (0, ()), ((-90000, 0), -4000, -4000)),
    ],
    "elapsed time": [
        ("EW shift both", SKIP, ((-1, 0), 3)), ("EE keep both", SKIP, ((0, 0), -1)),
        ("EE refuse both", REPEAT, ((-3, 0), 4)), ("WW keep second", SKIP, ((2, 0), 3)),
        ("WE keep refuse", SKIP, ((-1, 0), 0)),
    ],
    "same clock": [
        ("WW keep first", SKIP, ((-24, 0),)), ("WE shift both", REPEAT, ((-25, 0),)),
        ("EE shift both", SKIP, ((2, 0),)), ("WE refuse refuse", SKIP, ((-1, 0),)),
        ("EE shift both", (0, ((0, 2), (12, 0))), ((-1, 0),)), ("WW refuse refuse", (5, ()), ((90000, 0),)),
    ],
    "later": [
        ("WW keep first", SKIP, ((1, 0), 1)), ("EE keep both", REPEAT, ((-1, 0), 1)),
        ("WE shift first", REPEAT, ((-1, 0), 1)), ("EW keep second", REPEAT, ((-1, 0), 1)),
        ("EE keep both", SKIP, ((1, 0), 4000)),
        ("WE refuse first", SKIP, ((2, 0), -1)), ("EE keep refuse", REPEAT, ((0, 0), -1)),
        ("EE keep first", REPEAT, ((-1, 0), 0)), ("WE keep first", SKIP, ((1, 0), -4000)),
    ],
    "sums told": [
        ("EE refuse first", SKIP, ((-1, 0), 1)), ("WW keep both", SKIP, ((-1, 0), 1)),
        ("WW shift refuse", SKIP, ((-1, 0), 1)), ("WE refuse second", REPEAT, ((-3, 0), 2)),
        ("WE refuse refuse", SKIP, ((-1, 0), 3)),
    ],
    "difference recovers": [
        ("WW keep first", SKIP, ((-1, 0), (0, 0))), ("EE shift both", SKIP, ((-1, 0), (2, 0))),
        ("EE keep both", REPEAT, ((-3, 0), (-1, 1))), ("WE keep both", REPEAT, ((-1, 1), (-1, 0))),
        ("EE keep both", SKIP, ((0, 0), (2, 0))), ("WW refuse refuse", REPEAT, ((-90000, 0), (90000, 0))),
    ],
    "order by difference": [
        ("WW keep first", SKIP, ((0, 0), (2, 0))), ("EE keep both", SKIP, ((0, 0), (2, 0))),
        ("EE keep both", REPEAT, ((-1, 0), (-1, 1))), ("WW keep both", REPEAT, ((-1, 0), (-1, 1))),
        ("EW keep both", REPEAT, ((-1, 1), (-1, 0))), ("WE shift first", SKIP, ((-1, 0), (2, 0))),
        ("WE keep both", REPEAT, ((0, 0), (-3, 0))),
    ],
    "equal means one instant": [
        ("WW keep first", SKIP, ((0, 0), (0, 0))), ("EE keep both", SKIP, ((0, 0), (2, 0))),
        ("WW keep both", REPEAT, ((-1, 1), (-1, 1))),
        ("EE keep both", REPEAT, ((-1, 0), (-1, 1))), ("WW keep both", REPEAT, ((-2, 0), (-1, 0))),
    ],
    "one instant means equal": [
        ("EE keep first", SKIP, ((0, 0), (2, 0))), ("WW keep first", SKIP, ((0, 0), (0, 0))),
        ("WW shift both", REPEAT, ((-1, 1), (-1, 1))),
        ("WW keep both", REPEAT, ((-2, 0), (-1, 1))), ("WW keep first", SKIP, ((0, 0), (3, 0))),
    ],
    "one instant, one time": [
        ("EE keep first", SKIP, ((0, 0), (0, 0))), ("WW shift both", REPEAT, ((-1, 1), (-1, 1))),
        ("WW keep both", REPEAT, ((-1, 0), (-1, 1))), ("EE keep first", SKIP, ((0, 0), (3, 0))),
    ],
    "order of instants": [
        ("EE keep first", SKIP, ((0, 0), (2, 0))), ("WW keep first", SKIP, ((2, 0), (0, 0))),
        ("WE keep both", REPEAT, ((-1, 0), (-1, 1))), ("WW keep both", REPEAT, ((-1, 1), (-1, 0))),
        ("EW keep both", REPEAT, ((-3, 0), (-1, 1))), ("WW shift first", REPEAT, ((-3, 0), (0, 0))),
    ],
    "order kept": [
        ("WW keep first", SKIP, ((-2, 0), (-1, 0), 3)), ("EE keep both", SKIP, ((-2, 0), (-1, 0), 3)),
        ("EW shift second", SKIP, ((-2, 0), (-1, 0), 1)), ("WW shift both", REPEAT, ((-4, 0), (-3, 0), 2)),
        ("WE keep first", REPEAT, ((-1, 0), (0, 0), -1)), ("EE keep both", REPEAT, ((-1, 0), (-2, 1), 0)),
        ("WE refuse first", SKIP, ((-1, 0), (-2, 0), 1)), ("EE keep refuse", REPEAT, ((0, 0), (0, 0), -1)),
        ("WE keep both", REPEAT, ((-2, 1), (-1, 0), 1)), ("WW keep first", (0, ()), ((0, 0), (1, 0), 4000)),
        ("WW keep first", (0, ()), ((0, 0), (1, 0), -4000)),
    ],
    "equal sums": [
        ("EE keep first", SKIP, ((0, 0), (2, 0), 2)), ("WW keep first", SKIP, ((0, 0), (0, 0), 2)),
        ("WE shift both", REPEAT, ((-1, 1), (-1, 1), 1)), ("WW keep both", REPEAT, ((-1, 0), (-1, 1), 1)),
        ("EE keep both", REPEAT, ((-2, 1), (-2, 1), -1)),
        ("WE refuse first", SKIP, ((-1, 0), (-2, 0), 1)), ("EE keep refuse", REPEAT, ((0, 0), (1, 0), -1)),
        ("EE keep both", REPEAT, ((-1, 0), (-1, 1), 1)), ("WW keep first", (0, ()), ((0, 0), (0, 0), 4000)),
        ("WW keep first", (0, ()), ((0, 0), (0, 0), -4000)),
    ],
}

FAILS = {
    "from universal and back": [
        ("WW shift first", REPEAT, (0,)), ("EE keep second", REPEAT, (-2,)), ("EE keep second", REPEAT, (-1,)),
        ("EE keep refuse", REPEAT, (0,)), ("WW refuse refuse", REPEAT, (-1,)),
    ],
    "to universal and back": [
        ("EE keep both", SKIP, ((0, 0),)), ("WW keep first", SKIP, ((1, 0),)), ("WE keep refuse", SKIP, ((1, 0),)),
    ],
    "every reading": [
        ("EE shift both", SKIP, (0,)), ("WW shift first", SKIP, (1,)),
        ("EW refuse both", SKIP, (0,)), ("WE keep refuse", REPEAT, (-1,)),
    ],
    "some reading": [
        ("EE refuse both", SKIP, (0,)), ("WW refuse first", SKIP, (1,)), ("WE keep refuse", REPEAT, (-2,)),
    ],
    "there and back": [
        ("WW shift first", SKIP, ((-1, 0), 1)), ("EE keep both", SKIP, ((0, 0), 1)),
        ("WE keep both", REPEAT, ((-1, 1), 1)), ("EW shift first", REPEAT, ((-1, 0), 1)),
        ("EE shift second", REPEAT, ((0, 0), -4)),
        ("WW refuse first", SKIP, ((-1, 0), 1)), ("WE keep refuse", REPEAT, ((0, 0), -1)),
        ("EE keep refuse", REPEAT, ((0, 0), -4)),
    ],
    "sum of durations": [
        ("WW shift first", SKIP, ((-1, 0), 1, 2)), ("EE keep first", REPEAT, ((-1, 0), 1, 3)),
        ("EW keep second", REPEAT, ((0, 0), -4, 4)),
        ("WE refuse first", SKIP, ((-1, 0), 1, 2)), ("WE refuse first", SKIP, ((-3, 0), 2, 1)),
        ("WW keep refuse", REPEAT, ((0, 0), -1, 1)), ("EE keep refuse", REPEAT, ((-4, 0), 1, 1)),
    ],
    "elapsed time": [
        ("WW keep first", SKIP, ((-1, 0), 3)), ("WE shift both", SKIP, ((-1, 0), 3)),
        ("EE keep first", REPEAT, ((-1, 0), 1)), ("EW keep second", REPEAT, ((0, 0), -4)),
        ("WW keep both", REPEAT, ((-3, 0), 3)),
        ("EE keep refuse", REPEAT, ((-3, 0), 1)), ("WW refuse both", SKIP, ((-1, 0), 1)),
    ],
    "same clock": [
        ("WW shift first", SKIP, ((-24, 0),)), ("EE keep both", SKIP, ((-1, 0),)), ("EW shift both", REPEAT, ((-3, 0),)),
        ("WE refuse first", SKIP, ((-24, 0),)), ("WE keep refuse", REPEAT, ((-25, 0),)),
        ("EE keep refuse", REPEAT, ((-25, 0),)),
    ],
    "later": [
        ("WE keep first", SKIP, ((1, 0), 1)), ("WE keep both", REPEAT, ((-2, 1), 1)),
        ("EE keep first", REPEAT, ((-1, 0), 1)), ("EW shift both", REPEAT, ((-1, 0), 1)),
        ("EW keep first", REPEAT, ((-2, 0), 2)),
        ("WW refuse first", SKIP, ((-1, 0), 1)), ("EE keep refuse", REPEAT, ((-3, 0), 2)),
    ],
    "sums told": [
        ("WW refuse first", SKIP, ((-1, 0), 1)), ("WE refuse both", SKIP, ((3, 0), -2)),
        ("EE keep refuse", REPEAT, ((-3, 0), 4)), ("WW shift refuse", REPEAT, ((-3, 0), 2)),
    ],
    "difference recovers": [
        ("EE keep first", SKIP, ((-1, 0), (0, 0))), ("EW keep refuse", SKIP, ((2, 0), (1, 0))),
        ("WW keep both", REPEAT, ((-3, 0), (-1, 1))), ("WE shift both", REPEAT, ((-1, 1), (-1, 1))),
    ],
    "order by difference": [
        ("WE keep first", SKIP, ((0, 0), (2, 0))), ("EW keep first", SKIP, ((0, 0), (2, 0))),
        ("WE shift both", REPEAT, ((-1, 0), (-1, 1))), ("EW refuse both", REPEAT, ((-1, 0), (-2, 1))),
    ],
    "equal means one instant": [
        ("WW keep both", REPEAT, ((-1, 0), (-1, 1))), ("EW shift both", REPEAT, ((-2, 1), (-2, 0))),
    ],
    "one instant means equal": [
        ("WW keep first", SKIP, ((0, 0), (2, 0))), ("EW keep both", SKIP, ((3, 0), (1, 0))),
    ],
    "one instant, one time": [
        ("WW keep first", SKIP, ((0, 0), (2, 0))), ("EE keep refuse", SKIP, ((3, 0), (1, 0))),
    ],
    "order of instants": [
        ("WW keep first", SKIP, ((0, 0), (2, 0))), ("EW keep both", SKIP, ((1, 0), (2, 0))),
        ("WW shift both", REPEAT, ((-1, 0), (-1, 1))), ("EW shift both", REPEAT, ((-2, 1), (-1, 0))),
    ],
    "order kept": [
        ("WW shift first", SKIP, ((-2, 0), (-1, 0), 3)), ("EW keep both", SKIP, ((0, 0), (2, 0), 1)),
        ("WE keep both", REPEAT, ((-1, 0), (-2, 1), 1)), ("EE shift first", REPEAT, ((-5, 0), (-4, 0), 4)),
        ("WE refuse first", SKIP, ((-2, 0), (-1, 0), 2)), ("WE refuse first", SKIP, ((-1, 0), (2, 0), 1)),
        ("WW keep refuse", REPEAT, ((-4, 0), (-3, 0), 2)), ("EE keep refuse", REPEAT, ((0, 0), (5, 0), -1)),
    ],
    "equal sums": [
        ("WE keep first", SKIP, ((0, 0), (2, 0), 2)), ("EW shift both", REPEAT, ((-1, 0), (-1, 1), 1)),
        ("WW refuse first", SKIP, ((-1, 0), (-1, 0), 1)), ("EE keep refuse", REPEAT, ((-3, 0), (-3, 0), 2)),
        ("WW keep refuse", REPEAT, ((0, 0), (0, 0), -1)),
    ],
}

# Arguments that each rule takes, for AWARE and NAIVE in ZONE.
VALID = {
    "instant": (0, -100000, 100000),
    "reading": (0, -90000, 90000),
    "time": ((0, 0), (-90000, 0), (90000, 0)),
    "duration": (0, -4000, 4000),
}

INVALID = {
    "instant": NOT_INTEGERS + (-100001, 100001, BIG, -BIG),
    "reading": NOT_INTEGERS + (-90001, 90001, -100000, 100000, BIG, -BIG),
    "time": NOT_TIMES,
    "duration": NOT_DURATIONS + (-4001, 4001, -9000, 9000),
}


def arguments_near(library, zone, rule, readings, durations):
    """Return all arguments of a rule from some readings, which are instants, too, and durations."""
    domains = {
        "instant": readings,
        "reading": readings,
        "time": oracle.times(library, zone, readings),
        "duration": durations,
    }
    return itertools.product(*[domains[word] for word in SHAPES[rule]])


class TestExamples(unittest.TestCase):
    def test_examples_of_the_interface(self):
        found = [
            len(rules()), shape("order kept"),
            holds_for(("wall", "wall", "shift", "first"), SKIP, "there and back", ((-1, 0), 1)),
            holds_for(("elapsed", "elapsed", "shift", "first"), SKIP, "there and back", ((-1, 0), 1)),
        ]
        self.assertEqual(found, [18, ("time", "time", "duration"), False, True])
        with self.assertRaises(BadRule):
            shape("Later")


class TestNames(unittest.TestCase):
    def test_rules_in_their_order(self):
        self.assertEqual(rules(), tuple(SHAPES))
        self.assertIs(rules().__class__, tuple)
        self.assertEqual(len(set(rules())), 18)

    def test_shapes(self):
        for rule, words in SHAPES.items():
            self.assertEqual(shape(rule), words)
            self.assertIs(shape(rule).__class__, tuple)

    def test_values_that_are_no_rules(self):
        for wrong in NOT_RULES:
            with self.subTest(wrong=wrong):
                self.assertIs(error_of(shape, wrong), BadRule)


class TestHoldsFor(unittest.TestCase):
    def assert_cases(self, cases, expected):
        self.assertEqual(list(cases), list(SHAPES))
        for rule, rows in cases.items():
            for text, zone, arguments in rows:
                with self.subTest(rule=rule, library=text, zone=zone, arguments=arguments):
                    self.assertIs(holds_for(library_of(text), zone, rule, arguments), expected)

    def test_where_rules_hold(self):
        self.assert_cases(HOLDS, True)

    def test_where_rules_do_not_hold(self):
        self.assert_cases(FAILS, False)

    def test_without_changes_every_rule_holds(self):
        for zone in ((0, ()), (-12, ())):
            for library in (AWARE, NAIVE, ("wall", "elapsed", "refuse", "refuse")):
                for rule in SHAPES:
                    for arguments in arguments_near(library, zone, rule, (-1, 0, 5), (-3, 0, 2)):
                        self.assertIs(holds_for(library, zone, rule, arguments), True)

    def test_as_the_document_tells(self):
        for zone, readings in ((SKIP, range(-3, 4)), (REPEAT, range(-4, 2))):
            for library in LIBRARIES:
                for rule in SHAPES:
                    for arguments in arguments_near(library, zone, rule, readings, (-4, -2, -1, 0, 1, 2, 3)):
                        expected = oracle_rules.holds_for(library, zone, rule, arguments)
                        found = holds_for(library, zone, rule, arguments)
                        self.assertIs(found, expected, (library, zone, rule, arguments))

    def test_as_the_document_tells_over_a_gap_and_a_fold(self):
        for zone, readings in (((0, ((0, 3), (12, 0))), (-1, 0, 2, 3, 12, 14, 15)), (ZONE, (0, 1, 2, 100, 101, 102))):
            for library in LIBRARIES:
                for rule in SHAPES:
                    for arguments in arguments_near(library, zone, rule, readings, (-13, 0, 1, 12, 100)):
                        expected = oracle_rules.holds_for(library, zone, rule, arguments)
                        found = holds_for(library, zone, rule, arguments)
                        self.assertIs(found, expected, (library, zone, rule, arguments))


class TestWrongArguments(unittest.TestCase):
    def assert_error(self, error, *arguments):
        with self.subTest(arguments=arguments):
            self.assertIs(error_of(holds_for, *arguments), error)

    def valid(self, rule, at=0):
        return tuple(VALID[word][at] for word in SHAPES[rule])

    def test_library(self):
        for wrong in NOT_LIBRARIES:
            self.assert_error(BadLibrary, wrong, ZONE, "later", ((0, 0), 1))

    def test_zone(self):
        for wrong in NOT_ZONES:
            self.assert_error(BadZone, AWARE, wrong, "later", ((0, 0), 1))

    def test_rule(self):
        for wrong in NOT_RULES:
            self.assert_error(BadRule, AWARE, ZONE, wrong, ((0, 0), 1))

    def test_bounds_of_arguments(self):
        for library in (AWARE, NAIVE):
            for rule in SHAPES:
                for at in range(3):
                    self.assertIn(holds_for(library, ZONE, rule, self.valid(rule, at)), (True, False))

    def test_each_argument(self):
        for library in (AWARE, NAIVE):
            for rule, words in SHAPES.items():
                valid = self.valid(rule)
                for at, word in enumerate(words):
                    for wrong in INVALID[word]:
                        self.assert_error(BadArguments, library, ZONE, rule, valid[:at] + (wrong,) + valid[at + 1:])

    def test_times_that_only_other_libraries_have(self):
        for gap, fold in (("shift", "first"), ("refuse", "second"), ("refuse", "refuse")):
            for zone, time in ((SKIP, (0, 0)), (SKIP, (1, 0)), (REPEAT, (-1, 1)), (REPEAT, (-2, 1))):
                library = ("wall", "elapsed", gap, fold)
                self.assert_error(BadArguments, library, zone, "same clock", (time,))
                self.assert_error(BadArguments, library, zone, "later", (time, 1))
                self.assert_error(BadArguments, library, zone, "order kept", ((5, 0), time, 1))
        self.assert_error(BadArguments, ("elapsed", "wall", "keep", "refuse"), REPEAT, "same clock", ((-1, 0),))

    def test_number_of_arguments(self):
        for rule in SHAPES:
            valid = self.valid(rule)
            for wrong in ((), valid[:-1], valid[1:], valid + valid[-1:], valid + (0,), valid * 2, valid + (None,)):
                self.assert_error(BadArguments, AWARE, ZONE, rule, wrong)

    def test_values_that_are_no_tuples(self):
        for rule in SHAPES:
            valid = self.valid(rule)
            for wrong in (list(valid), dict(enumerate(valid)), {item: 0 for item in valid}, valid[0], (valid,), [valid]):
                self.assert_error(BadArguments, AWARE, ZONE, rule, wrong)
            for wrong in NOT_INTEGERS + (BIG, "later", rule, SHAPES[rule]):
                if wrong != (0,):
                    self.assert_error(BadArguments, AWARE, ZONE, rule, wrong)
        for wrong in ((True,), (False,), ([],), ("0",)):
            self.assert_error(BadArguments, AWARE, ZONE, "every reading", wrong)
        self.assert_error(BadArguments, AWARE, ZONE, "same clock", ([0, 0],))

    def test_arguments_of_a_true_premise_only(self):
        # A false premise does not make up for wrong arguments.
        self.assert_error(BadArguments, AWARE, ZONE, "later", ((0, 0), -4001))
        self.assert_error(BadArguments, AWARE, ZONE, "order kept", ((5, 0), (0, 0), 4001))

    def test_the_first_wrong_argument_counts(self):
        for wrong in ((), None, ((0, 0), 4001), [(0, 0), 1], ((0, 0), 1)):
            self.assert_error(BadLibrary, AWARE[:3], (13, ()), "Later", wrong)
            self.assert_error(BadLibrary, list(AWARE), ZONE, "later", wrong)
            self.assert_error(BadZone, AWARE, (13, ()), "Later", wrong)
            self.assert_error(BadZone, AWARE, list(ZONE), "later", wrong)
            self.assert_error(BadRule, AWARE, ZONE, "Later", wrong)
            self.assert_error(BadRule, AWARE, ZONE, ["later"], wrong)
