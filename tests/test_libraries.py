"""Promises 4, 5 and 6: libraries, their times, and how they read the clock."""

import unittest

import oracle
from samples import (
    AWARE, BIG, LIBRARIES, NAIVE, NOT_INTEGERS, NOT_LIBRARIES, NOT_TIMES, NOT_ZONES, REPEAT, SKIP, ZONE, ZONES,
    error_of, with_fold, with_gap,
)
from timeheld.errors import BadInstant, BadLibrary, BadReading, BadTime, BadZone
from timeheld.libraries import all_libraries, from_instant, is_library, is_time, read, to_instant


class TestExamples(unittest.TestCase):
    def test_examples_of_the_interface(self):
        found = [
            len(all_libraries()), is_library(AWARE), read(AWARE, ZONE, 1), read(NAIVE, ZONE, 1),
            to_instant(NAIVE, ZONE, (1, 0)), from_instant(AWARE, ZONE, 100), is_time(NAIVE, ZONE, (101, 1)),
        ]
        self.assertEqual(found, [48, True, (2, 0), (1, 0), 0, (101, 1), False])
        with self.assertRaises(BadTime):
            to_instant(NAIVE, ZONE, (101, 1))


class TestLibraries(unittest.TestCase):
    def test_all_libraries(self):
        self.assertEqual(all_libraries(), tuple(LIBRARIES))
        self.assertEqual(all_libraries(), tuple(sorted(set(all_libraries()))))
        self.assertEqual(len(all_libraries()), 48)

    def test_is_library(self):
        for library in LIBRARIES:
            self.assertIs(is_library(library), True)
        for wrong in NOT_LIBRARIES:
            with self.subTest(wrong=wrong):
                self.assertIs(is_library(wrong), False)


class TestIsTime(unittest.TestCase):
    def passes(self, library, zone, reading):
        return [turn for turn in (-1, 0, 1, 2) if is_time(library, zone, (reading, turn))]

    def test_with_one_instant(self):
        for library in LIBRARIES:
            for zone, reading in ((SKIP, -1), (SKIP, 2), (REPEAT, -3), (REPEAT, 0), (ZONE, 0), (ZONE, 2)):
                self.assertEqual(self.passes(library, zone, reading), [0])

    def test_in_a_gap(self):
        for gap, turns in (("keep", [0]), ("refuse", []), ("shift", [])):
            for library in with_gap(gap):
                self.assertEqual(self.passes(library, SKIP, 0), turns)
                self.assertEqual(self.passes(library, SKIP, 1), turns)

    def test_in_a_fold(self):
        for fold, turns in (("both", [0, 1]), ("first", [0]), ("refuse", []), ("second", [0])):
            for library in with_fold(fold):
                self.assertEqual(self.passes(library, REPEAT, -2), turns)
                self.assertEqual(self.passes(library, REPEAT, -1), turns)

    def test_bounds_of_readings(self):
        for library in LIBRARIES:
            for reading in (-90000, 90000):
                self.assertIs(is_time(library, ZONE, (reading, 0)), True)
            for reading in (-90001, 90001, -100000, 100000, BIG):
                self.assertIs(is_time(library, ZONE, (reading, 0)), False)

    def test_values_that_are_no_times(self):
        for library in (AWARE, NAIVE, ("elapsed", "wall", "refuse", "refuse"), ("wall", "elapsed", "keep", "second")):
            for wrong in NOT_TIMES:
                with self.subTest(library=library, wrong=wrong):
                    self.assertIs(is_time(library, ZONE, wrong), False)

    def test_as_the_document_tells(self):
        for zone in ZONES:
            for library in LIBRARIES:
                for reading in oracle.near(zone):
                    expected = oracle.passes(library, zone, reading)
                    self.assertEqual(self.passes(library, zone, reading), expected, (library, zone, reading))


class TestToInstant(unittest.TestCase):
    def test_with_one_instant(self):
        for library in LIBRARIES:
            self.assertEqual([to_instant(library, SKIP, (reading, 0)) for reading in (-1, 2)], [-1, 0])
            self.assertEqual([to_instant(library, REPEAT, (reading, 0)) for reading in (-3, 0)], [-3, 2])
            self.assertEqual(to_instant(library, (-12, ()), (90000, 0)), 90012)
            self.assertEqual(to_instant(library, (12, ()), (-90000, 0)), -90012)

    def test_in_a_gap(self):
        for library in with_gap("keep"):
            self.assertEqual([to_instant(library, SKIP, (reading, 0)) for reading in (0, 1)], [0, 1])
            self.assertEqual(to_instant(library, (5, ((-20, 4), (0, 7))), (5, 0)), 1)

    def test_in_a_fold(self):
        for fold, instants in (("first", [-2, -1]), ("second", [0, 1])):
            for library in with_fold(fold):
                self.assertEqual([to_instant(library, REPEAT, (reading, 0)) for reading in (-2, -1)], instants)
        for library in with_fold("both"):
            times = [(-2, 0), (-1, 0), (-2, 1), (-1, 1)]
            self.assertEqual([to_instant(library, REPEAT, time) for time in times], [-2, -1, 0, 1])

    def test_times_that_a_library_does_not_have(self):
        for library in with_gap("refuse") + with_gap("shift"):
            self.assertIs(error_of(to_instant, library, SKIP, (0, 0)), BadTime)
            self.assertIs(error_of(to_instant, library, SKIP, (1, 0)), BadTime)
        for library in with_fold("refuse"):
            self.assertIs(error_of(to_instant, library, REPEAT, (-1, 0)), BadTime)
        for library in with_fold("first") + with_fold("second") + with_fold("refuse"):
            self.assertIs(error_of(to_instant, library, REPEAT, (-1, 1)), BadTime)

    def test_as_the_document_tells(self):
        for zone in ZONES:
            for library in LIBRARIES:
                for reading in oracle.near(zone):
                    for turn in oracle.passes(library, zone, reading):
                        expected = oracle.to_instant(library, zone, (reading, turn))
                        self.assertEqual(to_instant(library, zone, (reading, turn)), expected)


class TestFromInstant(unittest.TestCase):
    def test_around_a_gap(self):
        for library in LIBRARIES:
            found = [from_instant(library, SKIP, instant) for instant in (-2, -1, 0, 1)]
            self.assertEqual(found, [(-2, 0), (-1, 0), (2, 0), (3, 0)])

    def test_around_a_fold(self):
        inside = {
            "both": [(-2, 0), (-1, 0), (-2, 1), (-1, 1)],
            "first": [(-2, 0), (-1, 0), (-2, 0), (-1, 0)],
            "refuse": ["refused"] * 4,
            "second": [(-2, 0), (-1, 0), (-2, 0), (-1, 0)],
        }
        for fold, times in inside.items():
            for library in with_fold(fold):
                found = [from_instant(library, REPEAT, instant) for instant in range(-3, 3)]
                self.assertEqual(found, [(-3, 0)] + times + [(0, 0)])

    def test_bounds_of_instants(self):
        for library in LIBRARIES:
            self.assertEqual(from_instant(library, (12, ()), 100000), (100012, 0))
            self.assertEqual(from_instant(library, (-12, ()), -100000), (-100012, 0))

    def test_as_the_document_tells(self):
        for zone in ZONES:
            for library in LIBRARIES:
                for instant in oracle.near(zone):
                    expected = oracle.from_instant(library, zone, instant)
                    self.assertEqual(from_instant(library, zone, instant), expected)


class TestRead(unittest.TestCase):
    def test_outside_of_gaps_and_folds(self):
        for library in LIBRARIES:
            self.assertEqual([read(library, SKIP, reading) for reading in (-1, 2)], [(-1, 0), (2, 0)])
            self.assertEqual([read(library, REPEAT, reading) for reading in (-3, 0)], [(-3, 0), (0, 0)])
            self.assertEqual(read(library, ZONE, 90000), (90000, 0))
            self.assertEqual(read(library, ZONE, -90000), (-90000, 0))

    def test_in_a_gap(self):
        for gap, times in (("keep", [(0, 0), (1, 0)]), ("refuse", ["refused"] * 2), ("shift", [(2, 0), (3, 0)])):
            for library in with_gap(gap):
                self.assertEqual([read(library, SKIP, reading) for reading in (0, 1)], times)

    def test_in_a_fold(self):
        for fold in ("both", "first", "second"):
            for library in with_fold(fold):
                self.assertEqual([read(library, REPEAT, reading) for reading in (-2, -1)], [(-2, 0), (-1, 0)])
        for library in with_fold("refuse"):
            self.assertEqual([read(library, REPEAT, reading) for reading in (-2, -1)], ["refused"] * 2)

    def test_as_the_document_tells(self):
        for zone in ZONES:
            for library in LIBRARIES:
                for reading in oracle.near(zone):
                    self.assertEqual(read(library, zone, reading), oracle.read(library, zone, reading))


class TestWrongArguments(unittest.TestCase):
    def assert_error(self, error, function, *arguments):
        with self.subTest(function=function.__name__, arguments=arguments):
            self.assertIs(error_of(function, *arguments), error)

    def test_library(self):
        for wrong in NOT_LIBRARIES:
            self.assert_error(BadLibrary, is_time, wrong, ZONE, (0, 0))
            self.assert_error(BadLibrary, to_instant, wrong, ZONE, (0, 0))
            self.assert_error(BadLibrary, from_instant, wrong, ZONE, 0)
            self.assert_error(BadLibrary, read, wrong, ZONE, 0)

    def test_zone(self):
        for wrong in NOT_ZONES:
            self.assert_error(BadZone, is_time, AWARE, wrong, (0, 0))
            self.assert_error(BadZone, to_instant, AWARE, wrong, (0, 0))
            self.assert_error(BadZone, from_instant, AWARE, wrong, 0)
            self.assert_error(BadZone, read, AWARE, wrong, 0)

    def test_time(self):
        for library in (AWARE, NAIVE):
            for wrong in NOT_TIMES:
                self.assert_error(BadTime, to_instant, library, ZONE, wrong)

    def test_instant(self):
        for wrong in NOT_INTEGERS + (-100001, 100001, BIG, -BIG):
            self.assert_error(BadInstant, from_instant, AWARE, ZONE, wrong)

    def test_reading(self):
        for wrong in NOT_INTEGERS + (-90001, 90001, BIG, -BIG):
            self.assert_error(BadReading, read, AWARE, ZONE, wrong)

    def test_the_first_wrong_argument_counts(self):
        for function, last in ((is_time, None), (to_instant, (0, 1)), (from_instant, 100001), (read, 90001)):
            for wrong in NOT_LIBRARIES:
                self.assert_error(BadLibrary, function, wrong, ZONE, last)
                self.assert_error(BadLibrary, function, wrong, (13, ()), last)
            for wrong in NOT_ZONES:
                self.assert_error(BadLibrary, function, AWARE[:3], wrong, last)
                self.assert_error(BadZone, function, AWARE, wrong, last)
