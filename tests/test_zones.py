"""Promises 2 and 3: zones, their offsets, kinds and readings."""

import unittest

import oracle
from samples import BIG, NOT_INTEGERS, NOT_ZONES, ZONE, ZONES, error_of
from timeheld.errors import BadInstant, BadReading, BadZone
from timeheld.zones import instants_of, is_zone, kind_of, offset_at


class TestExamples(unittest.TestCase):
    def test_examples_of_the_interface(self):
        self.assertEqual(
            [is_zone(ZONE), kind_of(ZONE), offset_at(ZONE, 99), instants_of(ZONE, 1), instants_of(ZONE, 101)],
            [True, "both", 2, (), (99, 100)],
        )
        with self.assertRaises(BadZone):
            offset_at((0, ((0, 4),)), 0)


class TestIsZone(unittest.TestCase):
    def assert_zones(self, *values):
        for value in values:
            with self.subTest(value=value):
                self.assertIs(is_zone(value), True)

    def assert_no_zones(self, *values):
        for value in values:
            with self.subTest(value=value):
                self.assertIs(is_zone(value), False)

    def test_sample_zones(self):
        self.assert_zones(*ZONES)

    def test_values_that_are_no_zones(self):
        self.assert_no_zones(*NOT_ZONES)

    def test_first_offset(self):
        self.assert_zones(*[(offset, ()) for offset in range(-12, 13)])
        self.assert_no_zones(*[(offset, ()) for offset in (-15, -14, -13, 13, 14, 15, BIG, -BIG)])

    def test_offset_of_a_change(self):
        self.assert_zones((12, ((0, 15),)), (-12, ((0, -15),)), (12, ((0, 15), (12, 12), (24, 15))))
        self.assert_no_zones((12, ((0, 15), (12, 16))), (-12, ((0, -15), (12, -16))), (12, ((0, 13), (12, 16))))

    def test_step_between_offsets(self):
        for first in (-12, -1, 0, 12):
            self.assert_zones(*[(first, ((0, first + step),)) for step in (-3, -2, -1, 1, 2, 3)])
            self.assert_no_zones(*[(first, ((0, first + step),)) for step in (-5, -4, 0, 4, 5)])

    def test_step_between_later_offsets(self):
        self.assert_zones(*[(0, ((0, 2), (12, 2 + step))) for step in (-3, -2, -1, 1, 2, 3)])
        self.assert_no_zones(*[(0, ((0, 2), (12, 2 + step))) for step in (-5, -4, 0, 4, 5)])

    def test_a_later_offset_may_equal_an_earlier_one(self):
        self.assert_zones((0, ((0, 2), (12, 0), (24, 2))))

    def test_instant_of_a_change(self):
        self.assert_zones(*[(0, ((instant, 1),)) for instant in (-1000, -999, 0, 999, 1000)])
        self.assert_no_zones(*[(0, ((instant, 1),)) for instant in (-BIG, -1001, 1001, BIG)])
        self.assert_no_zones((0, ((995, 1), (1007, 0))), (0, ((-1007, 1), (-995, 0))))

    def test_distance_of_changes(self):
        self.assert_zones(*[(0, ((0, 1), (distance, 0))) for distance in (12, 13, 1000)])
        self.assert_no_zones(*[(0, ((0, 1), (distance, 0))) for distance in (-1000, -13, -12, -1, 0, 1, 10, 11)])
        self.assert_zones((0, ((-1000, 1), (-988, 0), (988, 1), (1000, 0))))
        self.assert_no_zones((0, ((-1000, 1), (-989, 0))), (0, ((989, 1), (1000, 0))))
        self.assert_no_zones((0, ((0, 1), (12, 0), (23, 1))))

    def test_number_of_changes(self):
        for many in range(9):
            self.assert_zones((0, tuple((12 * k, 1 - k % 2) for k in range(many))))
        for many in (9, 10, 50):
            self.assert_no_zones((0, tuple((12 * k, 1 - k % 2) for k in range(many))))


class TestOffsetAt(unittest.TestCase):
    def test_around_changes(self):
        expected = {-500: 1, -1: 1, 0: 2, 1: 2, 50: 2, 99: 2, 100: 1, 101: 1, 500: 1}
        for instant, offset in expected.items():
            with self.subTest(instant=instant):
                self.assertEqual(offset_at(ZONE, instant), offset)

    def test_first_and_last_instant(self):
        for zone in ZONES:
            self.assertEqual(offset_at(zone, -100000), zone[0])
            self.assertEqual(offset_at(zone, 100000), zone[1][-1][1] if zone[1] else zone[0])

    def test_just_before_at_and_after_each_change(self):
        for zone in ZONES:
            before = zone[0]
            for instant, after in zone[1]:
                with self.subTest(zone=zone, instant=instant):
                    around = [offset_at(zone, instant + k) for k in (-2, -1, 0, 1)]
                    self.assertEqual(around, [before, before, after, after])
                before = after

    def test_as_the_document_tells(self):
        for zone in ZONES:
            for instant in oracle.near(zone):
                self.assertEqual(offset_at(zone, instant), oracle.offset(zone, instant))


class TestKindOf(unittest.TestCase):
    def test_kinds(self):
        kinds = {
            "fixed": [(0, ()), (-12, ()), (12, ())],
            "skips": [(0, ((0, 1),)), (-5, ((0, -2),)), (0, ((0, 3), (12, 6), (24, 7)))],
            "repeats": [(0, ((0, -1),)), (5, ((0, 2),)), (0, ((0, -3), (12, -6), (24, -7)))],
            "both": [(0, ((0, 1), (12, 0))), (0, ((0, -1), (12, 0))), (0, ((0, 1), (12, 2), (24, 1))),
                     (0, ((0, -1), (12, -2), (24, -1)))],
        }
        for kind, zones in kinds.items():
            for zone in zones:
                with self.subTest(zone=zone):
                    self.assertEqual(kind_of(zone), kind)


class TestInstantsOf(unittest.TestCase):
    def test_around_a_gap(self):
        for width, gap in ((1, [0]), (2, [0, 1]), (3, [0, 1, 2])):
            zone = (0, ((0, width),))
            self.assertEqual([r for r in range(-40, 41) if instants_of(zone, r) == ()], gap)
            self.assertEqual(instants_of(zone, -1), (-1,))
            self.assertEqual(instants_of(zone, width), (0,))

    def test_around_a_fold(self):
        zone = (0, ((0, -3),))
        found = [instants_of(zone, reading) for reading in range(-5, 2)]
        self.assertEqual(found, [(-5,), (-4,), (-3, 0), (-2, 1), (-1, 2), (3,), (4,)])
        self.assertEqual([r for r in range(-40, 41) if len(instants_of((5, ((0, 4),)), r)) == 2], [4])

    def test_gaps_and_folds_between_other_changes(self):
        zone = (0, ((-12, 3), (0, 0), (12, 3), (24, 6), (36, 3)))
        gaps = [r for r in range(-60, 61) if instants_of(zone, r) == ()]
        folds = [(r, instants_of(zone, r)) for r in range(-60, 61) if len(instants_of(zone, r)) == 2]
        self.assertEqual(gaps, [-12, -11, -10, 12, 13, 14, 27, 28, 29])
        self.assertEqual(folds, [(0, (-3, 0)), (1, (-2, 1)), (2, (-1, 2)),
                                 (39, (33, 36)), (40, (34, 37)), (41, (35, 38))])

    def test_bounds_of_readings(self):
        self.assertEqual(instants_of((12, ()), -90000), (-90012,))
        self.assertEqual(instants_of((-12, ()), 90000), (90012,))

    def test_as_the_document_tells(self):
        for zone in ZONES:
            for reading in oracle.near(zone):
                with self.subTest(zone=zone, reading=reading):
                    self.assertEqual(instants_of(zone, reading), oracle.instants(zone, reading))


class TestWrongArguments(unittest.TestCase):
    def test_zone(self):
        for wrong in NOT_ZONES:
            with self.subTest(wrong=wrong):
                self.assertIs(error_of(offset_at, wrong, 0), BadZone)
                self.assertIs(error_of(kind_of, wrong), BadZone)
                self.assertIs(error_of(instants_of, wrong, 0), BadZone)

    def test_instant(self):
        for wrong in NOT_INTEGERS + (-100001, 100001, BIG, -BIG):
            with self.subTest(wrong=wrong):
                self.assertIs(error_of(offset_at, ZONE, wrong), BadInstant)

    def test_reading(self):
        for wrong in NOT_INTEGERS + (-90001, 90001, -100000, 100000, BIG, -BIG):
            with self.subTest(wrong=wrong):
                self.assertIs(error_of(instants_of, ZONE, wrong), BadReading)

    def test_the_first_wrong_argument_counts(self):
        for wrong in NOT_ZONES:
            self.assertIs(error_of(offset_at, wrong, None), BadZone)
            self.assertIs(error_of(offset_at, wrong, 100001), BadZone)
            self.assertIs(error_of(instants_of, wrong, True), BadZone)
            self.assertIs(error_of(instants_of, wrong, 90001), BadZone)
