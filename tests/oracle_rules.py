"""The sentences of DOC.md, points 8, 10 and 11, told again without the package."""

import oracle


class Refused(Exception):
    """An operation is refused."""


def told(result):
    """The result of an operation that is not refused."""
    if result == "refused":
        raise Refused
    return result


class Clock:
    """The operations of a library in a zone; each raises Refused if it is refused."""

    def __init__(self, library, zone):
        self.here = library, zone

    def time(self, instant):
        return told(oracle.from_instant(*self.here, instant))

    def instant(self, time):
        return oracle.to_instant(*self.here, time)

    def read(self, reading):
        return told(oracle.read(*self.here, reading))

    def plus(self, time, duration):
        return told(oracle.add(*self.here, time, duration))

    def minus(self, one, other):
        return oracle.subtract(*self.here, one, other)

    def less(self, one, other):
        return oracle.compare(*self.here, one, other) == -1

    def equal(self, one, other):
        return oracle.compare(*self.here, one, other) == 0

    def together(self, one, other):
        return self.instant(one) == self.instant(other)


# What a rule says of its arguments, where its premise is true.
RULES = {
    "from universal and back": lambda at, T: at.instant(at.time(T)) == T,
    "to universal and back": lambda at, t: at.time(at.instant(t)) == t,
    "every reading": lambda at, w: at.read(w)[0] == w,
    "some reading": lambda at, w: len(at.read(w)) == 2,
    "there and back": lambda at, t, d: at.plus(at.plus(t, d), -d) == t,
    "sum of durations": lambda at, t, d, e: at.plus(at.plus(t, d), e) == at.plus(t, d + e),
    "elapsed time": lambda at, t, d: at.instant(at.plus(t, d)) - at.instant(t) == d,
    "same clock": lambda at, t: at.plus(t, 24)[0] == t[0] + 24,
    "later": lambda at, t, d: at.less(t, at.plus(t, d)),
    "sums told": lambda at, t, d: len(at.plus(t, d)) == 2,
    "difference recovers": lambda at, t, u: at.plus(t, at.minus(u, t)) == u,
    "order by difference": lambda at, t, u: at.less(t, u) == (at.minus(u, t) > 0),
    "equal means one instant": lambda at, t, u: at.together(t, u),
    "one instant means equal": lambda at, t, u: at.equal(t, u),
    "one instant, one time": lambda at, t, u: t == u,
    "order of instants": lambda at, t, u: at.less(t, u) == (at.instant(t) < at.instant(u)),
    "order kept": lambda at, t, u, d: at.less(at.plus(t, d), at.plus(u, d)),
    "equal sums": lambda at, t, u, d: at.equal(at.plus(t, d), at.plus(u, d)),
}

PREMISES = {
    "later": lambda at, t, d: d > 0,
    "equal means one instant": lambda at, t, u: at.equal(t, u),
    "one instant means equal": lambda at, t, u: at.together(t, u),
    "one instant, one time": lambda at, t, u: at.together(t, u),
    "order kept": lambda at, t, u, d: at.less(t, u),
    "equal sums": lambda at, t, u, d: at.equal(t, u),
}


def holds_for(library, zone, rule, arguments):
    """Whether a rule holds for arguments."""
    clock = Clock(library, zone)
    if rule in PREMISES and not PREMISES[rule](clock, *arguments):
        return True
    try:
        return RULES[rule](clock, *arguments)
    except Refused:
        return False


FIRST_OR_SECOND = ("first", "second")

# Of the sums s, the order o and the gap g of a library.
SKIPS = {
    "from universal and back": lambda s, o, g: True,
    "to universal and back": lambda s, o, g: g in ("shift", "refuse"),
    "every reading": lambda s, o, g: g == "keep",
    "some reading": lambda s, o, g: not g == "refuse",
    "there and back": lambda s, o, g: (s == "wall" and g == "keep") or (s == "elapsed" and not g == "keep"),
    "sum of durations": lambda s, o, g: s == "elapsed" or g == "keep",
    "elapsed time": lambda s, o, g: s == "elapsed",
    "same clock": lambda s, o, g: s == "wall" and g == "keep",
    "later": lambda s, o, g: s == "elapsed" or g == "shift" or (g == "keep" and o == "wall"),
    "sums told": lambda s, o, g: s == "elapsed" or not g == "refuse",
    "difference recovers": lambda s, o, g: s == "wall" or not g == "keep",
    "order by difference": lambda s, o, g: s == o or not g == "keep",
    "equal means one instant": lambda s, o, g: True,
    "one instant means equal": lambda s, o, g: o == "elapsed" or not g == "keep",
    "one instant, one time": lambda s, o, g: not g == "keep",
    "order of instants": lambda s, o, g: o == "elapsed" or not g == "keep",
    "order kept": lambda s, o, g: (
        (s == "wall" and o == "wall" and g == "keep") or (s == "elapsed" and (o == "elapsed" or not g == "keep"))
    ),
    "equal sums": lambda s, o, g: s == "elapsed" or g == "shift" or (g == "keep" and o == "wall"),
}

# Of the sums s, the order o and the fold f of a library.
REPEATS = {
    "from universal and back": lambda s, o, f: f == "both",
    "to universal and back": lambda s, o, f: True,
    "every reading": lambda s, o, f: not f == "refuse",
    "some reading": lambda s, o, f: not f == "refuse",
    "there and back": lambda s, o, f: (s == "wall" and f in FIRST_OR_SECOND) or (s == "elapsed" and f == "both"),
    "sum of durations": lambda s, o, f: (s == "wall" and not f == "refuse") or (s == "elapsed" and f == "both"),
    "elapsed time": lambda s, o, f: s == "elapsed" and f == "both",
    "same clock": lambda s, o, f: s == "wall" and not f == "refuse",
    "later": lambda s, o, f: f == "second" or (s == "wall" and f == "first") or (f == "both" and s == o),
    "sums told": lambda s, o, f: not f == "refuse",
    "difference recovers": lambda s, o, f: s == "elapsed" or not f == "both",
    "order by difference": lambda s, o, f: s == o or not f == "both",
    "equal means one instant": lambda s, o, f: o == "elapsed" or not f == "both",
    "one instant means equal": lambda s, o, f: True,
    "one instant, one time": lambda s, o, f: True,
    "order of instants": lambda s, o, f: o == "elapsed" or not f == "both",
    "order kept": lambda s, o, f: (
        (s == "wall" and (f in FIRST_OR_SECOND or (f == "both" and o == "wall")))
        or (s == "elapsed" and o == "elapsed" and f == "both")
    ),
    "equal sums": lambda s, o, f: f in FIRST_OR_SECOND or (f == "both" and (s == "wall" or o == "elapsed")),
}


def met_for_skips(library, rule):
    """Whether the condition of a rule for skips is met."""
    return SKIPS[rule](library[0], library[1], library[2])


def met_for_repeats(library, rule):
    """Whether the condition of a rule for repeats is met."""
    return REPEATS[rule](library[0], library[1], library[3])


def holds(library, kind, rule):
    """Whether a rule holds for all zones of a kind."""
    over_skips = met_for_skips(library, rule) or kind in ("fixed", "repeats")
    over_repeats = met_for_repeats(library, rule) or kind in ("fixed", "skips")
    return over_skips and over_repeats


# Of the first zone and the second one: a rule, the words that a library has, the arguments.
IN_FIRST_ZONE = (
    ("to universal and back", (), ((0, 0),)),
    ("every reading", (), (0,)),
    ("some reading", (), (0,)),
    ("there and back", ("sums wall",), ((-1, 0), 1)),
    ("there and back", ("sums elapsed",), ((0, 0), 1)),
    ("sum of durations", (), ((-1, 0), 1, 2)),
    ("elapsed time", (), ((-1, 0), 3)),
    ("same clock", ("sums wall",), ((-24, 0),)),
    ("same clock", ("sums elapsed",), ((-1, 0),)),
    ("later", ("gap keep",), ((1, 0), 1)),
    ("later", ("gap refuse",), ((-1, 0), 1)),
    ("sums told", (), ((-1, 0), 1)),
    ("difference recovers", (), ((-1, 0), (0, 0))),
    ("order by difference", (), ((0, 0), (2, 0))),
    ("one instant means equal", (), ((0, 0), (2, 0))),
    ("one instant, one time", (), ((0, 0), (2, 0))),
    ("order of instants", (), ((0, 0), (2, 0))),
    ("order kept", ("sums wall",), ((-2, 0), (-1, 0), 3)),
    ("order kept", ("sums elapsed",), ((0, 0), (2, 0), 1)),
    ("equal sums", ("gap keep",), ((0, 0), (2, 0), 2)),
    ("equal sums", ("gap refuse",), ((-1, 0), (-1, 0), 1)),
)

IN_SECOND_ZONE = (
    ("from universal and back", ("fold second",), (-2,)),
    ("from universal and back", (), (0,)),
    ("every reading", (), (-1,)),
    ("some reading", (), (-1,)),
    ("there and back", ("sums wall", "fold both"), ((-1, 1), 1)),
    ("there and back", ("sums wall", "fold refuse"), ((0, 0), -1)),
    ("there and back", ("sums elapsed", "fold first"), ((-1, 0), 1)),
    ("there and back", ("sums elapsed",), ((0, 0), -4)),
    ("sum of durations", ("sums wall",), ((0, 0), -1, 1)),
    ("sum of durations", ("sums elapsed", "fold first"), ((-1, 0), 1, 3)),
    ("sum of durations", ("sums elapsed",), ((0, 0), -4, 4)),
    ("elapsed time", ("sums wall",), ((-3, 0), 3)),
    ("elapsed time", ("sums elapsed", "fold first"), ((-1, 0), 1)),
    ("elapsed time", ("sums elapsed",), ((0, 0), -4)),
    ("same clock", ("sums wall",), ((-25, 0),)),
    ("same clock", ("sums elapsed",), ((-3, 0),)),
    ("later", ("fold refuse",), ((-3, 0), 2)),
    ("later", ("sums wall",), ((-2, 1), 1)),
    ("later", ("sums elapsed",), ((-1, 0), 1)),
    ("sums told", (), ((-3, 0), 2)),
    ("difference recovers", (), ((-3, 0), (-1, 1))),
    ("order by difference", (), ((-1, 0), (-1, 1))),
    ("equal means one instant", (), ((-1, 0), (-1, 1))),
    ("order of instants", (), ((-1, 0), (-1, 1))),
    ("order kept", ("sums elapsed",), ((-5, 0), (-4, 0), 4)),
    ("order kept", ("sums wall", "fold refuse"), ((-4, 0), (-3, 0), 2)),
    ("order kept", ("sums wall",), ((-1, 0), (-2, 1), 1)),
    ("equal sums", ("fold refuse",), ((-3, 0), (-3, 0), 2)),
    ("equal sums", (), ((-1, 0), (-1, 1), 1)),
)


def arguments_told(rows, library, rule):
    """The arguments of the first row for a rule whose words a library has."""
    words = [f"{part} {word}" for part, word in zip(("sums", "order", "gap", "fold"), library)]
    for name, wanted, arguments in rows:
        if name == rule and all(word in words for word in wanted):
            return arguments
    raise AssertionError("the document tells no arguments")


def counterexample(library, kind, rule):
    """None, or the zone and the arguments that the document tells."""
    if holds(library, kind, rule):
        return None
    if kind in ("skips", "both") and not met_for_skips(library, rule):
        return (0, ((0, 2),)), arguments_told(IN_FIRST_ZONE, library, rule)
    return (0, ((0, -2),)), arguments_told(IN_SECOND_ZONE, library, rule)
