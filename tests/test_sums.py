"""Promise 7: adding durations, subtracting times and comparing them."""

import unittest

import oracle
from samples import (
    AWARE, BIG, LIBRARIES, NAIVE, NOT_DURATIONS, NOT_LIBRARIES, NOT_TIMES, NOT_ZONES, REPEAT, SKIP, ZONE, ZONES,
    error_of, with_fold, with_gap, with_order, with_sums,
)
from timeheld.errors import BadDuration, BadLibrary, BadTime, BadZone
from timeheld.sums import add, compare, subtract

# A gap at readings 0 to 2 and, twelve hours later, a fold at the same; and the other way round.
NARROW_ZONES = ((0, ((0, 3), (12, 0))), (0, ((0, -3), (12, 0))))


class TestExamples(unittest.TestCase):
    def test_examples_of_the_interface(self):
        found = [
            add(AWARE, ZONE, (101, 0), 1), add(NAIVE, ZONE, (101, 0), 1), subtract(AWARE, ZONE, (2, 0), (0, 0)),
            subtract(NAIVE, ZONE, (2, 0), (0, 0)), compare(AWARE, ZONE, (101, 0), (101, 1)),
        ]
        self.assertEqual(found, [(101, 1), (102, 0), 1, 2, -1])
        with self.assertRaises(BadDuration):
            add(AWARE, ZONE, (101, 0), 9001)


class TestAdd(unittest.TestCase):
    def assert_sums(self, libraries, zone, time, sums):
        """Assert that a time plus 0, 1, 2 .. is each of some sums in turn, for each of some libraries."""
        self.assertGreater(len(libraries), 0)
        for library in libraries:
            with self.subTest(library=library, zone=zone, time=time):
                self.assertEqual([add(library, zone, time, hours) for hours in range(len(sums))], sums)

    def assert_sums_back(self, libraries, zone, time, sums):
        """Assert that a time plus -1, -2, -3 .. is each of some sums in turn, for each of some libraries."""
        self.assertGreater(len(libraries), 0)
        for library in libraries:
            with self.subTest(library=library, zone=zone, time=time):
                self.assertEqual([add(library, zone, time, -1 - hours) for hours in range(len(sums))], sums)

    def test_wall_into_a_gap(self):
        for gap, inside in (("keep", [(0, 0), (1, 0)]), ("refuse", ["refused"] * 2), ("shift", [(2, 0), (3, 0)])):
            libraries = with_sums("wall", with_gap(gap))
            self.assert_sums(libraries, SKIP, (-2, 0), [(-2, 0), (-1, 0)] + inside + [(2, 0), (3, 0)])
            self.assert_sums_back(libraries, SKIP, (3, 0), [(2, 0)] + inside[::-1] + [(-1, 0), (-2, 0)])

    def test_elapsed_over_a_gap(self):
        for gap in ("keep", "refuse", "shift"):
            libraries = with_sums("elapsed", with_gap(gap))
            self.assert_sums(libraries, SKIP, (-2, 0), [(-2, 0), (-1, 0), (2, 0), (3, 0)])
            self.assert_sums_back(libraries, SKIP, (3, 0), [(2, 0), (-1, 0), (-2, 0)])

    def test_of_a_time_in_a_gap(self):
        wall = with_sums("wall", with_gap("keep"))
        self.assert_sums(wall, SKIP, (0, 0), [(0, 0), (1, 0), (2, 0)])
        self.assert_sums_back(wall, SKIP, (1, 0), [(0, 0), (-1, 0)])
        elapsed = with_sums("elapsed", with_gap("keep"))
        self.assert_sums(elapsed, SKIP, (0, 0), [(2, 0), (3, 0), (4, 0)])
        self.assert_sums_back(elapsed, SKIP, (1, 0), [(2, 0), (-1, 0)])

    def test_wall_into_a_fold(self):
        for fold in ("both", "first", "refuse", "second"):
            inside = ["refused"] * 2 if fold == "refuse" else [(-2, 0), (-1, 0)]
            libraries = with_sums("wall", with_fold(fold))
            self.assert_sums(libraries, REPEAT, (-3, 0), [(-3, 0)] + inside + [(0, 0), (1, 0)])
            self.assert_sums_back(libraries, REPEAT, (0, 0), inside[::-1] + [(-3, 0), (-4, 0)])

    def test_elapsed_through_a_fold(self):
        inside = {
            "both": [(-2, 0), (-1, 0), (-2, 1), (-1, 1)],
            "first": [(-2, 0), (-1, 0), (-2, 0), (-1, 0)],
            "refuse": ["refused"] * 4,
            "second": [(-2, 0), (-1, 0), (-2, 0), (-1, 0)],
        }
        for fold, times in inside.items():
            libraries = with_sums("elapsed", with_fold(fold))
            self.assert_sums(libraries, REPEAT, (-3, 0), [(-3, 0)] + times + [(0, 0), (1, 0)])
            self.assert_sums_back(libraries, REPEAT, (0, 0), times[::-1] + [(-3, 0), (-4, 0)])

    def test_of_a_time_in_a_fold(self):
        wall = with_sums("wall", with_fold("both"))
        self.assert_sums(wall, REPEAT, (-2, 1), [(-2, 0), (-1, 0), (0, 0)])
        self.assert_sums_back(wall, REPEAT, (-1, 1), [(-2, 0), (-3, 0)])
        self.assert_sums(with_sums("elapsed", with_fold("both")), REPEAT, (-2, 1), [(-2, 1), (-1, 1), (0, 0)])
        self.assert_sums_back(with_sums("elapsed", with_fold("both")), REPEAT, (-2, 1), [(-1, 0), (-2, 0), (-3, 0)])
        self.assert_sums(with_sums("elapsed", with_fold("first")), REPEAT, (-1, 0), [(-1, 0), (-2, 0), (-1, 0), (0, 0)])
        self.assert_sums(with_sums("elapsed", with_fold("second")), REPEAT, (-1, 0), [(-1, 0), (0, 0)])

    def test_bounds_of_durations(self):
        for library in LIBRARIES:
            for duration in (-9000, -8999, 8999, 9000):
                self.assertEqual(add(library, (0, ()), (0, 0), duration), (duration, 0))
                self.assertEqual(add(library, SKIP, (-10, 0), duration)[1], 0)

    def test_sums_beyond_the_bounds_of_arguments(self):
        for library in LIBRARIES:
            for zone in ((0, ()), (12, ()), (-12, ()), SKIP, ZONE):
                self.assertEqual(add(library, zone, (90000, 0), 9000), (99000, 0))
                self.assertEqual(add(library, zone, (-90000, 0), -9000), (-99000, 0))
                self.assertEqual(add(library, zone, (90000, 0), 1), (90001, 0))

    def test_as_the_document_tells(self):
        for zone in ZONES[3:10] + NARROW_ZONES:
            for library in LIBRARIES:
                for time in oracle.times(library, zone, range(-6, 20)):
                    for duration in (-13, -4, -3, -2, -1, 0, 1, 2, 3, 4, 13):
                        expected = oracle.add(library, zone, time, duration)
                        self.assertEqual(add(library, zone, time, duration), expected)


class TestSubtract(unittest.TestCase):
    def assert_difference(self, libraries, zone, one, other, difference):
        self.assertGreater(len(libraries), 0)
        for library in libraries:
            with self.subTest(library=library, zone=zone, one=one, other=other):
                self.assertEqual(subtract(library, zone, one, other), difference)
                self.assertEqual(subtract(library, zone, other, one), -difference)

    def test_without_changes(self):
        self.assert_difference(LIBRARIES, (5, ()), (7, 0), (3, 0), 4)
        self.assert_difference(LIBRARIES, (5, ()), (3, 0), (3, 0), 0)

    def test_over_a_gap(self):
        self.assert_difference(with_sums("wall", LIBRARIES), SKIP, (2, 0), (-1, 0), 3)
        self.assert_difference(with_sums("elapsed", LIBRARIES), SKIP, (2, 0), (-1, 0), 1)

    def test_in_a_gap(self):
        self.assert_difference(with_sums("wall", with_gap("keep")), SKIP, (2, 0), (0, 0), 2)
        self.assert_difference(with_sums("elapsed", with_gap("keep")), SKIP, (2, 0), (0, 0), 0)
        self.assert_difference(with_sums("elapsed", with_gap("keep")), SKIP, (1, 0), (2, 0), 1)

    def test_over_a_fold(self):
        self.assert_difference(with_sums("wall", LIBRARIES), REPEAT, (0, 0), (-3, 0), 3)
        self.assert_difference(with_sums("elapsed", LIBRARIES), REPEAT, (0, 0), (-3, 0), 5)

    def test_in_a_fold(self):
        self.assert_difference(with_sums("wall", with_fold("both")), REPEAT, (-1, 1), (-1, 0), 0)
        self.assert_difference(with_sums("wall", with_fold("both")), REPEAT, (-1, 0), (-2, 1), 1)
        self.assert_difference(with_sums("elapsed", with_fold("both")), REPEAT, (-1, 1), (-1, 0), 2)
        self.assert_difference(with_sums("elapsed", with_fold("both")), REPEAT, (-2, 1), (-1, 0), 1)
        for fold, hours in (("first", 2), ("second", 4)):
            self.assert_difference(with_sums("wall", with_fold(fold)), REPEAT, (-1, 0), (-3, 0), 2)
            self.assert_difference(with_sums("elapsed", with_fold(fold)), REPEAT, (-1, 0), (-3, 0), hours)

    def test_order_does_not_matter(self):
        for sums, difference in (("wall", 0), ("elapsed", 2)):
            for order in ("wall", "elapsed"):
                self.assertEqual(subtract((sums, order, "keep", "both"), REPEAT, (-1, 1), (-1, 0)), difference)

    def test_bounds_of_readings(self):
        self.assert_difference(LIBRARIES, (12, ()), (90000, 0), (-90000, 0), 180000)
        self.assert_difference(with_sums("wall", LIBRARIES), SKIP, (90000, 0), (-90000, 0), 180000)
        self.assert_difference(with_sums("elapsed", LIBRARIES), SKIP, (90000, 0), (-90000, 0), 179998)

    def test_as_the_document_tells(self):
        for zone in ZONES[3:10] + NARROW_ZONES:
            for library in LIBRARIES:
                times = oracle.times(library, zone, range(-5, 15))
                for one in times:
                    for other in times:
                        expected = oracle.subtract(library, zone, one, other)
                        self.assertEqual(subtract(library, zone, one, other), expected)


class TestCompare(unittest.TestCase):
    def assert_order(self, libraries, zone, one, other, order):
        self.assertGreater(len(libraries), 0)
        for library in libraries:
            with self.subTest(library=library, zone=zone, one=one, other=other):
                self.assertEqual(compare(library, zone, one, other), order)
                self.assertEqual(compare(library, zone, other, one), -order)
                self.assertIs(compare(library, zone, one, other).__class__, int)

    def test_without_changes(self):
        self.assert_order(LIBRARIES, (5, ()), (3, 0), (7, 0), -1)
        self.assert_order(LIBRARIES, (5, ()), (3, 0), (3, 0), 0)
        self.assert_order(LIBRARIES, (5, ()), (90000, 0), (-90000, 0), 1)

    def test_in_a_gap(self):
        keep = with_gap("keep")
        self.assert_order(with_order("wall", keep), SKIP, (0, 0), (2, 0), -1)
        self.assert_order(with_order("elapsed", keep), SKIP, (0, 0), (2, 0), 0)
        self.assert_order(with_order("wall", keep), SKIP, (1, 0), (2, 0), -1)
        self.assert_order(with_order("elapsed", keep), SKIP, (1, 0), (2, 0), 1)
        self.assert_order(keep, SKIP, (-1, 0), (0, 0), -1)
        self.assert_order(keep, SKIP, (0, 0), (1, 0), -1)

    def test_in_a_fold(self):
        both = with_fold("both")
        self.assert_order(with_order("wall", both), REPEAT, (-1, 0), (-1, 1), 0)
        self.assert_order(with_order("elapsed", both), REPEAT, (-1, 0), (-1, 1), -1)
        self.assert_order(with_order("wall", both), REPEAT, (-1, 0), (-2, 1), 1)
        self.assert_order(with_order("elapsed", both), REPEAT, (-1, 0), (-2, 1), -1)
        for fold in ("first", "second"):
            self.assert_order(with_fold(fold), REPEAT, (-2, 0), (-1, 0), -1)
            self.assert_order(with_fold(fold), REPEAT, (-3, 0), (-2, 0), -1)
            self.assert_order(with_fold(fold), REPEAT, (-1, 0), (0, 0), -1)

    def test_over_a_gap_and_a_fold(self):
        self.assert_order(LIBRARIES, SKIP, (-1, 0), (2, 0), -1)
        self.assert_order(LIBRARIES, REPEAT, (-3, 0), (0, 0), -1)

    def test_sums_do_not_matter(self):
        for order, compared in (("wall", 0), ("elapsed", 1)):
            for sums in ("wall", "elapsed"):
                self.assertEqual(compare((sums, order, "keep", "both"), REPEAT, (-1, 1), (-1, 0)), compared)

    def test_as_the_document_tells(self):
        for zone in ZONES[3:10] + NARROW_ZONES:
            for library in LIBRARIES:
                times = oracle.times(library, zone, range(-5, 15))
                for one in times:
                    for other in times:
                        expected = oracle.compare(library, zone, one, other)
                        self.assertEqual(compare(library, zone, one, other), expected)


class TestWrongArguments(unittest.TestCase):
    def assert_error(self, error, function, *arguments):
        with self.subTest(function=function.__name__, arguments=arguments):
            self.assertIs(error_of(function, *arguments), error)

    def test_library(self):
        for wrong in NOT_LIBRARIES:
            self.assert_error(BadLibrary, add, wrong, ZONE, (0, 0), 1)
            self.assert_error(BadLibrary, subtract, wrong, ZONE, (0, 0), (0, 0))
            self.assert_error(BadLibrary, compare, wrong, ZONE, (0, 0), (0, 0))

    def test_zone(self):
        for wrong in NOT_ZONES:
            self.assert_error(BadZone, add, AWARE, wrong, (0, 0), 1)
            self.assert_error(BadZone, subtract, AWARE, wrong, (0, 0), (0, 0))
            self.assert_error(BadZone, compare, AWARE, wrong, (0, 0), (0, 0))

    def test_time(self):
        for library in (AWARE, NAIVE):
            for wrong in NOT_TIMES:
                self.assert_error(BadTime, add, library, ZONE, wrong, 1)
                self.assert_error(BadTime, subtract, library, ZONE, wrong, (0, 0))
                self.assert_error(BadTime, subtract, library, ZONE, (0, 0), wrong)
                self.assert_error(BadTime, compare, library, ZONE, wrong, (0, 0))
                self.assert_error(BadTime, compare, library, ZONE, (0, 0), wrong)

    def test_times_that_only_other_libraries_have(self):
        wrong = [(library, SKIP, (0, 0)) for library in with_gap("refuse") + with_gap("shift")]
        wrong += [(library, REPEAT, (-1, 0)) for library in with_fold("refuse")]
        wrong += [(library, REPEAT, (-1, 1)) for library in LIBRARIES if library[3] != "both"]
        for library, zone, time in wrong:
            self.assert_error(BadTime, add, library, zone, time, 0)
            for function in (subtract, compare):
                self.assert_error(BadTime, function, library, zone, time, (5, 0))
                self.assert_error(BadTime, function, library, zone, (5, 0), time)
                self.assert_error(BadTime, function, library, zone, time, time)

    def test_duration(self):
        for library in (AWARE, NAIVE):
            for wrong in NOT_DURATIONS:
                self.assert_error(BadDuration, add, library, ZONE, (0, 0), wrong)

    def test_times_just_beyond_the_bounds(self):
        for library in LIBRARIES:
            for reading in (-90001, 90001, BIG):
                self.assert_error(BadTime, add, library, ZONE, (reading, 0), 0)
                self.assert_error(BadTime, subtract, library, ZONE, (0, 0), (reading, 0))
                self.assert_error(BadTime, compare, library, ZONE, (0, 0), (reading, 0))

    def test_the_first_wrong_argument_counts(self):
        for function, wrong in ((add, (101, 1)), (subtract, (101, 1)), (compare, (101, 1)), (add, None)):
            for last in (9001, True, None, [], (1, 0)):
                self.assert_error(BadLibrary, function, AWARE[:3], (13, ()), wrong, last)
                self.assert_error(BadLibrary, function, list(AWARE), ZONE, (0, 0), last)
                self.assert_error(BadZone, function, NAIVE, (13, ()), wrong, last)
                self.assert_error(BadZone, function, NAIVE, list(ZONE), (0, 0), last)
                self.assert_error(BadTime, function, NAIVE, ZONE, wrong, last)
