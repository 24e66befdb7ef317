"""Promise 13: zones written as texts, and read from them."""

import re
import unittest

from samples import BIG, NOT_STRINGS, NOT_ZONES, ZONE, ZONES, error_of
from timeheld.errors import BadZone, InvalidText, NotText
from timeheld.texts import read_zone, write_zone
from timeheld.zones import is_zone

TEXTS = (
    ((0, ()), "0"),
    ((12, ()), "12"),
    ((-12, ()), "-12"),
    ((0, ((0, 2),)), "0 0:2"),
    ((0, ((0, -2),)), "0 0:-2"),
    ((1, ((0, 0),)), "1 0:0"),
    ((-1, ((-1000, 0),)), "-1 -1000:0"),
    ((12, ((1000, 15),)), "12 1000:15"),
    (ZONE, "1 0:2 100:1"),
    ((-3, ((-20, -5),)), "-3 -20:-5"),
    ((0, ((-12, 3), (0, 0))), "0 -12:3 0:0"),
    (
        (-1, ((-30, 2), (-18, -1), (-6, 2), (6, 5), (18, 2), (30, -1), (42, -4), (54, -1))),
        "-1 -30:2 -18:-1 -6:2 6:5 18:2 30:-1 42:-4 54:-1",
    ),
)

# Texts that no zone is written as, though some of them could be read as one.
NOT_TEXTS = (
    "", " ", "  ", "-", "+", ":", "0:", ":2", "0:2", "--1", "-0", "+0", "+1", "00", "01", "-01", "0x1", "1_0", "1.0",
    "1e1", "one", "None", "True", "(0, ())", "(0, ((0, 2),))", "0,0:2", "0;0:2", "0 0 2", "0 0,2", "0 (0:2)",
    " 0", "0 ", "\t0", "0\n", "\n0", "0\t0:2", "0\n0:2", "0\r0:2", " 0 0:2", "0 0:2 ", "0  0:2", "0 0:2  100:1",
    "0 0: 2", "0 0 :2", "0 0 : 2", "0 :2", "0 0:", "0 :", "0 0", "0 0 2", "0 0:2:", "0 :0:2", "0 0::2", "0 0:2:1",
    "0 0:2:100:1", "0 0:2 100", "0 0:2 100:", "0 0:2 100:1 ", "0 0:2,100:1",
    "00 0:2", "-0 0:2", "+0 0:2", "+1 0:2", "0 00:2", "0 -0:2", "0 +0:2", "0 +20:2", "0 0:02", "0 0:+2", "0 0:-02",
    "1 0:-0", "1 0:00", "0 020:2", "0 -020:2", "0 --20:2", "0 0:--2", "0 2-0:2", "0 20-:2", "0 0:2-", "0 -:2", "0 0:-",
    "0 0:2'", "0' 0:2", "0 0:two", "zero", "0 O:2", "0 0:2.0", "0 0.0:2", "0 1_0:2",
    "\u0660", "\u0661 0:2", "0 \u0660:2", "0 0:\u0662", "0 0:\u00b2", "\uff10", "0 0:\uff12", "\u0967", "\u2212" "1",
    "0\u00a00:2", "0\u20030:2", "0 0\uff1a2", "\ufeff0", "0\u200b", "\x00", "0\x00", "\ud800",
    # Written rightly, but no zone.
    "13", "-13", "1000", "123456789", "1234567890", "9" * 40, "-" + "9" * 40, "1" * 5000, "0" * 5000, "0 " * 5000,
    "0 0:4", "0 0:0", "0 0:-4", "1 0:1", "12 0:16", "12 0:15 20:16", "0 -1001:2", "0 1001:2", "0 123456789:2",
    "0 1234567890:2", "0 0:" + "2" * 40, "0 0:2 11:1", "0 0:2 0:1", "0 20:2 0:1", "0 0:2 -12:1", "0 0:2 20:2",
    "0 0:1 20:2 40:1 60:2 80:1 100:2 120:1 140:2 160:1", "refused", "show",
)

INTEGER = "(?:0|-?[1-9][0-9]*)"
FORM = re.compile(f"{INTEGER}(?: {INTEGER}:{INTEGER})*", re.ASCII)


def zone_told(text):
    """The zone that a text writes, None if it writes none, by a pattern in the place of the package's steps."""
    if FORM.fullmatch(text) is None:
        return None
    offset, *changes = [[int(part) for part in word.split(":")] for word in text.split(" ")]
    zone = (offset[0], tuple(map(tuple, changes)))
    return zone if is_zone(zone) else None


def texts_near(text):
    """A text with one sign dropped, put in or replaced, at every place."""
    for at in range(len(text) + 1):
        for sign in ("", " ", ":", "-", "+", "0", "1", "2", "9", "_", "'", "\n", "\u0661"):
            yield text[:at] + sign + text[at:]
            yield text[:at] + sign + text[at + 1:]


class TestExamples(unittest.TestCase):
    def test_examples_of_the_interface(self):
        found = [write_zone((1, ((0, 2), (100, 1)))), read_zone("-3 -20:-5")]
        self.assertEqual(found, ["1 0:2 100:1", (-3, ((-20, -5),))])
        with self.assertRaises(InvalidText):
            read_zone("0 0:4")


class TestTexts(unittest.TestCase):
    def test_zones_and_their_texts(self):
        for zone, text in TEXTS:
            with self.subTest(text=text):
                self.assertEqual(write_zone(zone), text)
                self.assertEqual(read_zone(text), zone)
                self.assertIs(is_zone(read_zone(text)), True)

    def test_there_and_back(self):
        for zone in ZONES:
            self.assertEqual(read_zone(write_zone(zone)), zone)

    def test_every_offset_and_instant(self):
        for offset in range(-12, 13):
            self.assertEqual(write_zone((offset, ())), str(offset))
            self.assertEqual(read_zone(str(offset)), (offset, ()))
        for instant in range(-1000, 1001):
            self.assertEqual(write_zone((0, ((instant, -1),))), f"0 {instant}:-1")
            self.assertEqual(read_zone(f"0 {instant}:-1"), (0, ((instant, -1),)))

    def test_texts_that_are_refused(self):
        for text in NOT_TEXTS:
            with self.subTest(text=text[:60]):
                self.assertIs(error_of(read_zone, text), InvalidText)

    def test_texts_that_differ_in_one_sign(self):
        for _, text in TEXTS:
            for near in texts_near(text):
                with self.subTest(near=near):
                    zone = zone_told(near)
                    if zone is None:
                        self.assertIs(error_of(read_zone, near), InvalidText)
                    else:
                        self.assertEqual(read_zone(near), zone)
                        self.assertEqual(write_zone(zone), near)

    def test_texts_of_values_that_are_no_zones(self):
        for offset in (-BIG, -13, 13, BIG):
            self.assertIs(error_of(read_zone, str(offset)), InvalidText)
        wrong = ((-1001, 2), (1001, 2), (BIG, 2), (-BIG, 2), (0, 0), (0, 4), (0, -4), (0, BIG), (0, -BIG))
        for instant, after in wrong:
            self.assertIs(error_of(read_zone, f"0 {instant}:{after}"), InvalidText)


class TestWrongArguments(unittest.TestCase):
    def test_zone(self):
        for wrong in NOT_ZONES:
            with self.subTest(wrong=wrong):
                self.assertIs(error_of(write_zone, wrong), BadZone)

    def test_text(self):
        for wrong in NOT_STRINGS:
            with self.subTest(wrong=wrong):
                self.assertIs(error_of(read_zone, wrong), NotText)
