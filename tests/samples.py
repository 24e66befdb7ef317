"""Values that several test files use."""

from timeheld import errors
from timeheld.desks import Desk
from timeheld.zones import is_zone

AWARE = ("elapsed", "elapsed", "shift", "both")
NAIVE = ("wall", "wall", "keep", "first")

# The zone of the examples: a gap at reading 1, a fold at reading 101.
ZONE = (1, ((0, 2), (100, 1)))

# A gap at readings 0 and 1; a fold at readings -2 and -1.
SKIP = (0, ((0, 2),))
REPEAT = (0, ((0, -2),))

LIBRARIES = [
    (sums, order, gap, fold)
    for sums in ("elapsed", "wall")
    for order in ("elapsed", "wall")
    for gap in ("keep", "refuse", "shift")
    for fold in ("both", "first", "refuse", "second")
]

KINDS = ("fixed", "skips", "repeats", "both")

# The rules in the order of the document, with the shapes of their arguments.
SHAPES = {
    "from universal and back": ("instant",),
    "to universal and back": ("time",),
    "every reading": ("reading",),
    "some reading": ("reading",),
    "there and back": ("time", "duration"),
    "sum of durations": ("time", "duration", "duration"),
    "elapsed time": ("time", "duration"),
    "same clock": ("time",),
    "later": ("time", "duration"),
    "sums told": ("time", "duration"),
    "difference recovers": ("time", "time"),
    "order by difference": ("time", "time"),
    "equal means one instant": ("time", "time"),
    "one instant means equal": ("time", "time"),
    "one instant, one time": ("time", "time"),
    "order of instants": ("time", "time"),
    "order kept": ("time", "time", "duration"),
    "equal sums": ("time", "time", "duration"),
}

NOT_NUMBERS_OR_PAIRS = (
    True, False, None, "", "0", "1", "refused", (), (0,), [], [0], {}, {0: 0},
    errors.TimeError("0"), errors.BadZone, is_zone, Desk(AWARE, ZONE),
)

NOT_INTEGERS = NOT_NUMBERS_OR_PAIRS + ((0, 0),)

BIG = 10 ** 40

NOT_ZONES = NOT_NUMBERS_OR_PAIRS + (
    0, (0, 0), (0, None), (0, True), (0, ""), (0, []), (0, {}), (0, (), ()), [0, ()], ((), 0), "0 0:2",
    (True, ()), (False, ()), ("0", ()), (None, ()), ((0,), ()),
    (-13, ()), (13, ()), (BIG, ()), (-BIG, ()),
    (0, [(0, 2)]), (0, ([0, 2],)), (0, (0, 2)), (0, ((0,),)), (0, ((),)), (0, ((0, 2, 3),)),
    (0, (None,)), (0, ("02",)), (0, ({0: 0, 2: 2},)), (0, (errors.BadZone("0"),)),
    (0, ((True, 2),)), (0, ((False, 2),)), (0, (("0", 2),)), (0, ((None, 2),)), (0, (((), 2),)),
    (0, ((0, True),)), (1, ((0, False),)), (0, ((0, "2"),)), (0, ((0, None),)), (0, ((0, [2]),)),
    (0, ((-1001, 2),)), (0, ((1001, 2),)), (0, ((BIG, 2),)), (0, ((-BIG, 2),)),
    (0, ((0, 0),)), (0, ((0, 4),)), (0, ((0, -4),)), (0, ((0, BIG),)),
    (0, ((0, 2), (20, 2))), (0, ((0, 2), (20, 6))), (0, ((0, 2), (20, -2))),
    (12, ((0, 15), (20, 16))), (-12, ((0, -15), (20, -16))), (12, ((0, 14), (20, 16))),
    (0, ((0, 2), (11, 1))), (0, ((0, 2), (0, 1))), (0, ((0, 2), (-12, 1))), (0, ((20, 2), (0, 1))),
    (0, ((-1000, 2), (-989, 1))), (0, ((0, 2), (12, 1), (23, 2))),
    (0, tuple((20 * k, 1 - k % 2) for k in range(9))),
    (0, ((0, 2), (100, 1), None)), (0, ((0, 2), (100, True))),
)

ZONES = (
    (0, ()), (-12, ()), (12, ()), ZONE,
    (0, ((0, 1),)), (0, ((0, 2),)), (0, ((0, 3),)), (0, ((0, -1),)), (0, ((0, -2),)), (0, ((0, -3),)),
    (12, ((-1000, 15),)), (-12, ((1000, -15),)), (12, ((1000, 15), )), (-12, ((-1000, -15),)),
    (0, ((0, 3), (12, 0))), (0, ((0, -3), (12, 0))), (0, ((0, 3), (12, 6))), (0, ((0, -3), (12, -6))),
    (-1, ((-30, 2), (-18, -1), (-6, 2), (6, 5), (18, 2), (30, -1), (42, -4), (54, -1))),
    (3, ((-1000, 0), (-988, 3), (-976, 5), (-964, 4), (964, 3), (976, 5), (988, 2), (1000, 3))),
    (12, ((-60, 15), (-40, 13), (-20, 15), (0, 14), (20, 15), (40, 12))),
    (-12, ((-60, -15), (-40, -13), (-20, -15), (0, -14), (20, -15), (40, -12))),
)

NOT_LIBRARIES = NOT_INTEGERS + (
    0, 47, "elapsed", AWARE[:3], AWARE + ("both",), list(AWARE), (AWARE,), dict(enumerate(AWARE)),
    ("Elapsed",) + AWARE[1:], ("keep",) + AWARE[1:], (None,) + AWARE[1:], (True,) + AWARE[1:], ([],) + AWARE[1:],
    ("elapsed", "first", "shift", "both"), ("elapsed", "", "shift", "both"), ("elapsed", 0, "shift", "both"),
    ("elapsed", ("elapsed",), "shift", "both"), ("elapsed", "elapse", "shift", "both"),
    ("elapsed", "elapsed", "both", "shift"), ("elapsed", "elapsed", "first", "both"),
    ("elapsed", "elapsed", "second", "both"), ("elapsed", "elapsed", None, "both"),
    ("elapsed", "elapsed", ["shift"], "both"), ("elapsed", "elapsed", "shift ", "both"),
    ("elapsed", "elapsed", "shift", "keep"), ("elapsed", "elapsed", "shift", "shift"),
    ("elapsed", "elapsed", "shift", {}), ("elapsed", "elapsed", "shift", 1), ("elapsed", "elapsed", "shift", "BOTH"),
    ("both", "shift", "elapsed", "elapsed"),
)

# In ZONE, for every library: 1 is in the gap, 101 in the fold, and all other readings have one instant.
NOT_TIMES = NOT_NUMBERS_OR_PAIRS + (
    0, 101, "101", "101'", (0, 0, 0), [0, 0], ((0, 0),), {0: 0, 1: 0},
    (True, 0), (False, 0), ("0", 0), (None, 0), ([], 0), ((0,), 0),
    (0, True), (0, False), (0, "0"), (0, None), (0, []), (0, (0,)),
    (0, 1), (0, 2), (0, -1), (0, BIG), (1, 1), (1, 2), (1, -1), (100, 1), (102, 1), (101, 2), (101, -1), (101, False),
    (90001, 0), (-90001, 0), (BIG, 0), (-BIG, 0),
)

NOT_DURATIONS = NOT_INTEGERS + (-9001, 9001, -90000, 90000, BIG, -BIG)

NOT_RULES = NOT_INTEGERS + (
    5, "Later", "later ", " later", "LATER", "late", "later, later", "order", "sums", "elapsed", "both", "time",
    "one instant one time", "from_universal_and_back", ("later",), ["later"], {"later": "later"}, ("time", "duration"),
    tuple(SHAPES), list(SHAPES), dict(SHAPES),
)

NOT_TUPLES_OF_RULES = tuple(value for value in NOT_INTEGERS if value != ()) + (
    5, "later", "later same clock", ["later"], [], {"later": True}, dict(SHAPES), list(SHAPES), (SHAPES,),
    ("later", "later"), ("later", "same clock", "later"), tuple(SHAPES) * 2, tuple(SHAPES) + ("later",),
    ("Later",), ("later", "same"), ("same clock", ""), ("later", 5), ("later", None), ("later", True),
    ("later", ["same clock"]), ("later", ("same clock",)), (("later", "same clock"),), ("later", {}),
    ("later", is_zone), ("later", errors.TimeError("later")), ("time", "duration"),
)

NOT_STRINGS = tuple(value for value in NOT_INTEGERS if not isinstance(value, str)) + (
    0, -3, BIG, ZONE, AWARE, ("0",), ["0"], {"0": "0"}, ("s", "h", "o", "w"), ("add", 1), ["show"], {"show": None},
)

NOT_KINDS = NOT_INTEGERS + (
    4, "skip", "repeat", "Both", "both ", "fix", "shift", "keep", "neither", "skips repeats",
    ("skips", "repeats"), ("both",), ["both"], {"both": "both"}, KINDS,
)


def with_gap(gap):
    """Return the libraries with a word for gaps."""
    return [library for library in LIBRARIES if library[2] == gap]


def with_fold(fold):
    """Return the libraries with a word for folds."""
    return [library for library in LIBRARIES if library[3] == fold]


def with_sums(sums, libraries):
    """Return those of some libraries with a word for sums."""
    return [library for library in libraries if library[0] == sums]


def with_order(order, libraries):
    """Return those of some libraries with a word for order."""
    return [library for library in libraries if library[1] == order]


def error_of(function, *arguments):
    """Return the class of the error that a call raises, None if it raises none."""
    try:
        function(*arguments)
    except Exception as error:
        return error.__class__
    return None
