"""Promise 14: a desk that keeps a time, line by line."""

import itertools
import unittest

import oracle
from samples import (
    AWARE, LIBRARIES, NAIVE, NOT_LIBRARIES, NOT_STRINGS, NOT_ZONES, REPEAT, SKIP, ZONE, ZONES, error_of, with_fold,
    with_gap, with_sums,
)
from timeheld.desks import Desk
from timeheld.errors import BadLibrary, BadZone, InvalidText, NothingToUndo, NotNow, NotText

# A fold at readings -502 and -501, a gap at readings -500 and -499: both at the desk's first instant.
FIRST_REPEATS = (0, ((-500, -2),))
FIRST_SKIPS = (0, ((-500, 2),))

REFUSING = ("wall", "wall", "refuse", "refuse")

NOT_LINES = (
    "", " ", "  ", "Show", "SHOW", "shows", "sho", "show ", " show", "show\n", "show 1", "show show", "show'",
    "'show'", "When", "when ", " when", "when 0", "when\t", "time", "undo", "undo ", "run", "refused", "0", "-1", "'",
    "1 add", "instant", "instant ", "instant  ", "read", "read ", "add", "add ", "Add 1", "ADD 1", "adds 1", "ad 1",
    "subtract 1", "sub 1", "set 1", " add 1", "add 1 ", "add  1", "add 1 1", "add 1 2", "add\t1", "add\n1",
    "add 1\n", "add1", "add:1", "add,1", "add +1", "add -0", "add 00", "add 01", "add -01",
    "add --1", "add -", "add - 1", "add 1-", "add 1'",
    "add 1.0", "add 1e1", "add 1_0", "add 0x1", "add one", "add (1)", "add '1'", "add None", "add True", "add 1:2",
    "add \u0661", "add \u00b2", "add \uff11", "add \u22121", "add\u00a01", "add\u20031", "\ufeffadd 1",
    "instant 007", "instant +7", "instant -0", "instant 0 0", "instant 0:2", "instant 7 ", "instant  7",
    "read 007", "read +7", "read -0", "read 0'", "read (0, 0)", "read 0 1", "read show", "add add 1", "add 1;show",
    "instant 1000000000", "instant -1000000000", "instant 0000000001", "read 1000000000", "read -1000000000",
    "add 1000000000", "add -1000000000", "add " + "9" * 5000, "instant " + "0" * 5000, "1" * 5000, "\ud800", "add \x00",
)


def desk_after(library, zone, *lines):
    """A desk at which some lines were run."""
    desk = Desk(library, zone)
    for line in lines:
        desk.run(line)
    return desk


def told(library, zone, time):
    """What "show" and "when" return for a time, as the document tells."""
    if time == "refused":
        return ["refused", "refused"]
    return [str(time[0]) + time[1] * "'", str(oracle.to_instant(library, zone, time))]


def time_told(library, zone, time, line):
    """The time after a line, as the document tells."""
    word, number = line.split(" ")
    if word == "instant":
        return oracle.from_instant(library, zone, int(number))
    if word == "read":
        return oracle.read(library, zone, int(number))
    return oracle.add(library, zone, time, int(number))


def lines_around(zone):
    """Lines that bring a desk to each change of a zone, into its gap or fold, and over it."""
    lines = []
    for at, after in zone[1]:
        before = oracle.offset(zone, at - 1)
        lines += [f"instant {at + hours}" for hours in (-4, -3, -2, -1, 0, 1, 2, 3)]
        lines += ["add 1", "add -1", "add -3", "add 2", "add 0"]
        for reading in range(at + min(before, after) - 1, at + max(before, after) + 2):
            lines += [f"read {reading}", "add 1", "add -2", "add 24", "add -24"]
    return lines + ["instant 0", "add 9000", "add -9000", "read -90000", "read 90000", "instant -100000"]


class TestExamples(unittest.TestCase):
    def test_examples_of_the_interface(self):
        desk = Desk(("elapsed", "elapsed", "shift", "both"), (1, ((0, 2), (100, 1))))
        found = [
            desk.run("instant 99"), desk.run("add 1"), desk.run("show"), desk.run("when"), desk.undo(), desk.time,
        ]
        self.assertEqual(found, [None, None, "101'", "100", None, (101, 0)])
        with self.assertRaises(NotNow):
            desk.run("add 9001")


class TestFirstTime(unittest.TestCase):
    def test_without_changes_near(self):
        for library in LIBRARIES:
            for zone, reading in ((ZONE, -499), ((0, ()), -500), ((12, ()), -488), ((-12, ()), -512)):
                self.assertEqual(Desk(library, zone).time, (reading, 0))

    def test_after_a_gap(self):
        for library in LIBRARIES:
            self.assertEqual(Desk(library, FIRST_SKIPS).time, (-498, 0))

    def test_in_a_fold(self):
        for fold, time in (("both", (-502, 1)), ("first", (-502, 0)), ("refuse", "refused"), ("second", (-502, 0))):
            for library in with_fold(fold):
                self.assertEqual(Desk(library, FIRST_REPEATS).time, time)
        for library in with_fold("both"):
            self.assertEqual(Desk(library, (0, ((-499, -1),))).time, (-500, 0))
            self.assertEqual(Desk(library, (0, ((-501, -2),))).time, (-502, 1))

    def test_refused(self):
        desk = Desk(REFUSING, FIRST_REPEATS)
        self.assertEqual([desk.time, desk.run("show"), desk.run("when")], ["refused", "refused", "refused"])
        self.assertIs(error_of(desk.run, "add 2"), NotNow)
        self.assertIs(error_of(desk.undo), NothingToUndo)
        self.assertIsNone(desk.run("instant -498"))
        self.assertEqual(desk.time, (-500, 0))
        self.assertIsNone(desk.undo())
        self.assertEqual(desk.time, "refused")

    def test_as_the_document_tells(self):
        for library, zone in itertools.product(LIBRARIES, ZONES + (FIRST_SKIPS, FIRST_REPEATS)):
            desk = Desk(library, zone)
            self.assertEqual(desk.time, oracle.from_instant(library, zone, -500))
            self.assertEqual([desk.run("show"), desk.run("when")], told(library, zone, desk.time))


class TestInstant(unittest.TestCase):
    def test_around_a_gap(self):
        for library in LIBRARIES:
            self.assertEqual(desk_after(library, SKIP, "instant -1").time, (-1, 0))
            self.assertEqual(desk_after(library, SKIP, "instant 0").time, (2, 0))

    def test_in_a_fold(self):
        table = (("both", (-2, 0), (-2, 1)), ("first", (-2, 0), (-2, 0)), ("second", (-2, 0), (-2, 0)))
        for fold, first, second in table + (("refuse", "refused", "refused"),):
            for library in with_fold(fold):
                self.assertEqual(desk_after(library, REPEAT, "instant -2").time, first)
                self.assertEqual(desk_after(library, REPEAT, "instant 0").time, second)


class TestRead(unittest.TestCase):
    def test_in_a_gap(self):
        for gap, time in (("keep", (0, 0)), ("refuse", "refused"), ("shift", (2, 0))):
            for library in with_gap(gap):
                self.assertEqual(desk_after(library, SKIP, "read 0").time, time)

    def test_in_a_fold(self):
        for fold, time in (("both", (-2, 0)), ("first", (-2, 0)), ("refuse", "refused"), ("second", (-2, 0))):
            for library in with_fold(fold):
                self.assertEqual(desk_after(library, REPEAT, "read -2").time, time)


class TestAdd(unittest.TestCase):
    def test_into_a_gap(self):
        for gap, time in (("keep", (0, 0)), ("refuse", "refused"), ("shift", (2, 0))):
            for library in with_sums("wall", with_gap(gap)):
                self.assertEqual(desk_after(library, SKIP, "read -1", "add 1").time, time)
            for library in with_sums("elapsed", with_gap(gap)):
                self.assertEqual(desk_after(library, SKIP, "read -1", "add 1").time, (2, 0))

    def test_of_a_time_in_a_gap(self):
        for library in with_sums("wall", with_gap("keep")):
            self.assertEqual(desk_after(library, SKIP, "read 0", "add 1").time, (1, 0))
        for library in with_sums("elapsed", with_gap("keep")):
            self.assertEqual(desk_after(library, SKIP, "read 0", "add 1").time, (3, 0))

    def test_through_a_fold(self):
        for library in with_sums("elapsed", with_fold("both")):
            desk = desk_after(library, REPEAT, "instant -3")
            found = []
            for _ in range(6):
                desk.run("add 1")
                found.append(desk.run("show"))
            self.assertEqual(found, ["-2", "-1", "-2'", "-1'", "0", "1"])
        for library in with_sums("wall", with_fold("both")):
            desk = desk_after(library, REPEAT, "instant -3", "add 1")
            self.assertEqual([desk.run("show"), desk.run("when")], ["-2", "-2"])
            desk = desk_after(library, REPEAT, "instant 0", "add 1")
            self.assertEqual([desk.run("show"), desk.run("when")], ["-1", "-1"])

    def test_with_a_refused_result(self):
        for library in with_fold("refuse"):
            desk = desk_after(library, REPEAT, "instant -3")
            self.assertIsNone(desk.run("add 1"))
            self.assertEqual([desk.time, desk.run("show"), desk.run("when")], ["refused"] * 3)
            desk.undo()
            self.assertEqual(desk.time, (-3, 0))

    def test_at_a_refused_time(self):
        for library in with_fold("refuse"):
            for line in ("add 0", "add 1", "add -24", "add 9000", "add 9001", "add 999999999"):
                desk = desk_after(library, REPEAT, "instant 5", "instant -1")
                self.assertIs(error_of(desk.run, line), NotNow)
                self.assertEqual(desk.time, "refused")
                desk.undo()
                self.assertEqual(desk.time, (3, 0))
            desk = desk_after(library, REPEAT, "instant -1")
            self.assertIs(error_of(desk.run, "add 01"), InvalidText)
            self.assertIsNone(desk.run("read 7"))
            self.assertIsNone(desk.run("add 1"))
            self.assertEqual(desk.time, (8, 0))


class TestShowAndWhen(unittest.TestCase):
    def test_passes(self):
        for library in with_fold("both"):
            desk = desk_after(library, ZONE, "instant 99")
            self.assertEqual([desk.run("show"), desk.run("when"), desk.time], ["101", "99", (101, 0)])
            desk.run("instant 100")
            self.assertEqual([desk.run("show"), desk.run("when"), desk.time], ["101'", "100", (101, 1)])
            desk = desk_after(library, REPEAT, "instant 1")
            self.assertEqual([desk.run("show"), desk.run("when")], ["-1'", "1"])

    def test_in_a_fold_with_one_time(self):
        for fold, instant in (("first", "99"), ("second", "100")):
            for library in with_fold(fold):
                for line in ("instant 99", "instant 100", "read 101"):
                    desk = desk_after(library, ZONE, line)
                    self.assertEqual([desk.run("show"), desk.run("when")], ["101", instant])

    def test_in_a_gap(self):
        for library in with_gap("keep"):
            desk = desk_after(library, SKIP, "read 1")
            self.assertEqual([desk.run("show"), desk.run("when")], ["1", "1"])

    def test_signs(self):
        desk = desk_after(NAIVE, (0, ()), "instant 0")
        self.assertEqual([desk.run("show"), desk.run("when")], ["0", "0"])
        desk = desk_after(NAIVE, (-12, ()), "instant 5")
        self.assertEqual([desk.run("show"), desk.run("when")], ["-7", "5"])

    def test_they_change_nothing(self):
        desk = desk_after(AWARE, ZONE, "instant 7", "instant 100")
        for line in ("show", "when", "show"):
            desk.run(line)
            self.assertEqual(desk.time, (101, 1))
        desk.undo()
        self.assertEqual(desk.time, (9, 0))


class TestBounds(unittest.TestCase):
    def test_integers_at_their_bounds_and_beyond(self):
        for library in (AWARE, NAIVE, REFUSING):
            for word, most in (("instant", 100000), ("read", 90000), ("add", 9000)):
                for number in (most, -most, most - 1, 1 - most, 0):
                    desk = desk_after(library, ZONE, "instant 0")
                    self.assertIsNone(desk.run(f"{word} {number}"))
                    self.assertEqual(desk.time, time_told(library, ZONE, (2, 0), f"{word} {number}"))
                for number in (most + 1, -most - 1, 123456789, 999999999, -999999999):
                    desk = desk_after(library, ZONE, "instant 0")
                    self.assertIs(error_of(desk.run, f"{word} {number}"), NotNow)
                    self.assertEqual(desk.time, (2, 0))
                for number in (1000000000, -1000000000, 10 ** 40):
                    self.assertIs(error_of(desk_after(library, ZONE, "instant 0").run, f"{word} {number}"), InvalidText)

    def test_times_beyond_the_bounds_of_arguments(self):
        for sums in ("elapsed", "wall"):
            for library in with_sums(sums, LIBRARIES):
                desk = desk_after(library, (12, ()), "instant 100000")
                self.assertEqual([desk.time, desk.run("show"), desk.run("when")], [(100012, 0), "100012", "100000"])
                for many in range(1, 120):
                    self.assertIsNone(desk.run("add 9000"))
                    self.assertEqual(desk.time, (100012 + 9000 * many, 0))
                self.assertEqual([desk.run("show"), desk.run("when")], ["1171012", "1171000"])
                desk = desk_after(library, ZONE, "read -90000", "add -9000")
                self.assertEqual([desk.run("show"), desk.run("when")], ["-99000", "-99001"])


class TestLines(unittest.TestCase):
    def test_lines_that_are_none(self):
        for library, zone in ((AWARE, ZONE), (REFUSING, FIRST_REPEATS)):
            desk = Desk(library, zone)
            first = desk.time
            for line in NOT_LINES:
                with self.subTest(line=line[:60]):
                    self.assertIs(error_of(desk.run, line), InvalidText)
                    self.assertEqual(desk.time, first)
            self.assertIs(error_of(desk.undo), NothingToUndo)

    def test_values_that_are_no_strings(self):
        desk = desk_after(AWARE, ZONE, "instant 5")
        for wrong in NOT_STRINGS:
            with self.subTest(wrong=wrong):
                self.assertIs(error_of(desk.run, wrong), NotText)
                self.assertEqual(desk.time, (7, 0))
        desk.undo()
        self.assertEqual(desk.time, (-499, 0))

    def test_as_the_document_tells(self):
        for zone in (SKIP, REPEAT, ZONE) + ZONES[12:]:
            for library in LIBRARIES:
                self.check_lines(library, zone, lines_around(zone))

    def check_lines(self, library, zone, lines):
        """Run lines at a desk, and take them all back, comparing it with the document after each step."""
        desk = Desk(library, zone)
        times = [oracle.from_instant(library, zone, -500)]
        for line in lines:
            if times[-1] == "refused" and line.startswith("add"):
                self.assertIs(error_of(desk.run, line), NotNow)
                continue
            times.append(time_told(library, zone, times[-1], line))
            self.assertIsNone(desk.run(line))
            self.assertEqual(desk.time, times[-1])
            self.assertEqual([desk.run("show"), desk.run("when")], told(library, zone, times[-1]))
        while len(times) > 1:
            self.assertIsNone(desk.undo())
            times.pop()
            self.assertEqual(desk.time, times[-1])
        self.assertIs(error_of(desk.undo), NothingToUndo)


class TestUndo(unittest.TestCase):
    def test_after_each_kind_of_line(self):
        for library in LIBRARIES:
            for line in ("instant 50", "read 50", "add 50", "add 0", "instant 5", "read 7", "read 1", "instant 100"):
                desk = desk_after(library, ZONE, "instant 5", line)
                self.assertIsNone(desk.undo())
                self.assertEqual(desk.time, (7, 0))
                self.assertIsNone(desk.undo())
                self.assertEqual(desk.time, (-499, 0))
                self.assertIs(error_of(desk.undo), NothingToUndo)

    def test_a_line_that_leaves_the_time_as_it_was_is_taken_back_by_itself(self):
        desk = desk_after(AWARE, ZONE, "instant 5", "add 1", "add 0", "instant 6", "read 8")
        for time in ((8, 0), (8, 0), (8, 0), (7, 0), (-499, 0)):
            desk.undo()
            self.assertEqual(desk.time, time)

    def test_lines_that_returned_a_text_are_not_taken_back(self):
        desk = desk_after(AWARE, ZONE, "instant 5", "show", "instant 6", "show", "when")
        desk.undo()
        self.assertEqual(desk.time, (7, 0))
        desk.run("show")
        desk.undo()
        self.assertEqual(desk.time, (-499, 0))
        desk.run("when")
        self.assertIs(error_of(desk.undo), NothingToUndo)

    def test_lines_that_raised_are_not_taken_back(self):
        desk = desk_after(AWARE, ZONE, "instant 5", "instant 6")
        wrong = (
            ("add 9001", NotNow), ("instant 100001", NotNow), ("read 90001", NotNow), ("add 01", InvalidText),
            ("", InvalidText), (None, NotText), (5, NotText),
        )
        for line, error in wrong:
            self.assertIs(error_of(desk.run, line), error)
            self.assertEqual(desk.time, (8, 0))
        desk.undo()
        self.assertEqual(desk.time, (7, 0))

    def test_with_nothing_to_take_back(self):
        for library in (AWARE, NAIVE):
            desk = Desk(library, ZONE)
            for _ in range(3):
                self.assertIs(error_of(desk.undo), NothingToUndo)
                self.assertEqual(desk.time, (-499, 0))
            desk.run("instant 5")
            desk.undo()
            self.assertIs(error_of(desk.undo), NothingToUndo)
            desk.run("instant 6")
            self.assertEqual(desk.time, (8, 0))
            desk.undo()
            self.assertEqual(desk.time, (-499, 0))

    def test_lines_after_undo(self):
        desk = desk_after(AWARE, ZONE, "instant 5", "instant 6")
        desk.undo()
        desk.run("add 10")
        self.assertEqual(desk.time, (17, 0))
        desk.undo()
        self.assertEqual(desk.time, (7, 0))

    def test_back_to_and_from_a_refused_time(self):
        desk = desk_after(REFUSING, REPEAT, "instant 5", "instant -1", "read -2", "instant 6")
        for time in ("refused", "refused", (3, 0), (-500, 0)):
            desk.undo()
            self.assertEqual(desk.time, time)


class TestDesks(unittest.TestCase):
    def test_desks_do_not_share_their_times(self):
        one, other = Desk(AWARE, ZONE), Desk(AWARE, ZONE)
        one.run("instant 5")
        self.assertEqual([one.time, other.time], [(7, 0), (-499, 0)])
        self.assertIs(error_of(other.undo), NothingToUndo)

    def test_library(self):
        for wrong in NOT_LIBRARIES:
            with self.subTest(wrong=wrong):
                self.assertIs(error_of(Desk, wrong, ZONE), BadLibrary)

    def test_zone(self):
        for wrong in NOT_ZONES:
            with self.subTest(wrong=wrong):
                self.assertIs(error_of(Desk, AWARE, wrong), BadZone)

    def test_the_first_wrong_argument_counts(self):
        for library, zone in itertools.product(NOT_LIBRARIES, (0, None, (0, []), ((), 0))):
            self.assertIs(error_of(Desk, library, zone), BadLibrary)
