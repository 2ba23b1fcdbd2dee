"""Values of many kinds, and a check of errors, that several tests use."""

from spoutlines.errors import (
    InvalidAsk, InvalidAsks, InvalidDistance, InvalidGround, InvalidGuards, InvalidHead, InvalidIndex, InvalidJet,
    InvalidNumber, InvalidPlace, InvalidStream,
)


class Touchy:
    """A value that may be looked at by its class alone."""

    def refuse(self, *told):
        raise RuntimeError("this value must not be asked anything")

    __eq__ = __ne__ = __lt__ = __le__ = __gt__ = __ge__ = refuse
    __hash__ = __bool__ = __len__ = __iter__ = __getitem__ = __contains__ = refuse
    __int__ = __index__ = __add__ = __sub__ = __mul__ = __neg__ = __repr__ = __str__ = refuse


def nested(depth):
    value = ()
    for _ in range(depth - 1):
        value = (value,)
    return value


TOUCHY = Touchy()

# Nothing among these is a fraction, a surd, a point, a whole number or anything else that is asked for.
STRANGE = [
    None, True, False, (), [], {}, set(), frozenset(), "", "1/2", "12", "123", b"", b"12", b"123", (1,), [1, 2],
    [1, 2, 3], ((1, 2),), ((1, 2), (4, 2)), (None, None), (None, None, None), ("1", "2"), ("1", "2", "3"), {1: 2},
    {1: 2, 3: 4}, {1, 2}, {1, 2, 3}, range(2), range(3), object(), object, int, len, Ellipsis, NotImplemented,
    ValueError("1"), 1j, nested(14), TOUCHY, (TOUCHY,), (TOUCHY, TOUCHY), (TOUCHY, TOUCHY, TOUCHY), (1, TOUCHY),
    (1, 2, TOUCHY), (TOUCHY, 0, (0, 1)), ((1, 2), TOUCHY, (2, 1)), ((1, 2), 1, TOUCHY), (nested(13), 1),
    iter((1, 2)), iter((1, 2, 3)), (1, 2, 3, 4), ([1], [2]), ([1], [2], [3]), (1j, 1), (b"1", 1),
]

NO_FRACTIONS = STRANGE + [
    0, 1, -1, 2, (1, 2, 1), (0, 2), (2, 4), (6, 3), (-2, 2), (10 ** 30, 10 ** 29), (3, 0), (0, 0), (1, -1), (0, -1),
    (-3, -4), (True, 2), (1, True), (False, 1), (0, True), ((1, 2), 1), (1, (2, 1)), (None, 1), (1, None), ("1", 2),
    (1, "2"), [(1, 2)], ((0, 1), 0, (0, 1)), (1, 1, 1),
]
FRACTIONS = [
    (0, 1), (1, 1), (-1, 1), (1, 2), (-1, 2), (7, 3), (-22, 7), (10 ** 9, 10 ** 9 - 1), (-(10 ** 400) + 1, 10 ** 399),
    (1, 10 ** 399), (3 ** 900, 2 ** 1400),
]

NO_SURDS = STRANGE + [
    0, 1, (0, 1), (1, 2), ((1, 2), 0), ((1, 2), 0, (0, 1), 0), [(1, 2), 0, (0, 1)], ((1, 2), [0], (0, 1)),
    ((1, 2), 0, [0, 1]), ([1, 2], 0, (0, 1)), ((2, 4), 0, (0, 1)), ((1, 0), 0, (0, 1)), ((1, -2), 0, (0, 1)),
    ((True, 2), 0, (0, 1)), ((1, 2), 0, (0, True)), ((1, 2), False, (0, 1)), ((1, 2), True, (2, 1)),
    ((1, 2), 2, (2, 1)), ((1, 2), -2, (2, 1)), ((1, 2), (1, 1), (2, 1)), ((1, 2), "1", (2, 1)), ((1, 2), None, (0, 1)),
    ((1, 2), 0, (1, 1)), ((1, 2), 0, (2, 1)), ((1, 2), 0, (-1, 1)), ((1, 2), 0, (0, 2)), ((1, 2), 0, None),
    ((1, 2), 1, (0, 1)), ((1, 2), -1, (0, 1)), ((1, 2), 1, (-2, 1)), ((1, 2), 1, (1, 1)), ((1, 2), 1, (4, 1)),
    ((1, 2), -1, (4, 9)), ((1, 2), -1, (1, 16)), ((1, 2), 1, (4, 2)), ((1, 2), 1, (2, 0)), ((1, 2), 1, (2, -1)),
    ((1, 2), 1, (10 ** 400, 1)), ((1, 2), 1, (1, (10 ** 100 + 1) ** 2)), ((1, 2), 1, 2), (1, 1, 2), (1, 0, 0),
    (0, 0, 1), ((0, 1), (0, 1), (0, 1)), ((1, 2), 10 ** 30, (2, 1)), (((0, 1), 0, (0, 1)), 0, (0, 1)),
]
SURDS = [
    ((0, 1), 0, (0, 1)), ((1, 2), 0, (0, 1)), ((-22, 7), 0, (0, 1)), ((1, 2), 1, (2, 1)), ((1, 2), -1, (2, 1)),
    ((0, 1), 1, (1, 2)), ((-5, 3), -1, (2, 3)), ((0, 1), 1, (8, 1)), ((0, 1), 1, (4, 3)), ((0, 1), -1, (3, 4)),
    ((10 ** 300 + 1, 10 ** 300), 1, (10 ** 399, 1)), ((0, 1), 1, (10 ** 400 + 1, 1)), ((0, 1), 1, (1, 10 ** 400 - 1)),
]

NO_POINTS = STRANGE + [
    0, 1, (1, 2), (0, 1), [1, 2, 3], (1, 2, 3, 1), (1, 2, 0), (1, 2, -1), (0, 0, 0), (0, 0, 2), (2, 4, 6), (-3, 6, 9),
    (3, 0, 3), (True, 2, 3), (1, False, 3), (1, 2, True), ((1, 1), (2, 1), (3, 1)), ((1, 1), 2, 3), (1, None, 2),
    (1, "2", 3), ("1", 2, 3), (None, 0, 1), (1, 0, None), ((1, 2, 3),), ((1, 2, 3), (1, 2, 3), (1, 2, 3)),
    ((1, 2), 0, (0, 1)), (10 ** 30, 10 ** 30, 10 ** 30),
]
AHEAD = [
    (1, 0, 1), (1, 0, 2), (6, -1, 4), (2, 4, 3), (2, 3, 2), (6, 10, 15), (10 ** 400 - 1, -(10 ** 400), 10 ** 399),
]
NOT_AHEAD = [(0, 0, 1), (0, 1, 1), (0, -1, 2), (-1, 0, 1), (-6, 1, 4), (-1, 10 ** 400, 3)]


BELOW_ZERO = [(-1, 1), (-1, 2), (-22, 7), (-(10 ** 400), 3)]
NOT_ABOVE_ZERO = [(0, 1)] + BELOW_ZERO
NO_PLACES = NO_POINTS + NOT_AHEAD

NO_JETS = STRANGE + [
    0, 1, (1, 2), ((1, 2),), ((1, 2), (1, 2), (1, 2)), [(1, 2), (1, 2)], ([1, 2], (1, 2)), ((1, 2), [1, 2]),
    ((1, 2), (0, 1)), ((1, 2), (-1, 2)), ((1, 2), (-(10 ** 400), 3)), ((2, 4), (1, 2)), ((1, 2), (2, 4)),
    ((1, 0), (1, 2)), ((1, 2), (1, 0)), ((1, 2), (1, -2)), ((1, 2), (True, 2)), ((True, 2), (1, 2)),
    ((1, 2), (1, True)), ((1, 2), None), (None, (1, 2)), ((1, 2), 1), (1, (1, 2)), ((0, 1), 0, (0, 1)),
    ((1, 2), TOUCHY), (TOUCHY, (1, 2)), ((1, 2), ((1, 2),)), ("12", "12"), ((1, 2), "12"), ((1, 2, 1), (1, 2)),
    (((1, 1), (1, 4)),),
]
JETS = [
    ((1, 1), (1, 4)), ((0, 1), (1, 1)), ((-3, 2), (2, 7)), ((10 ** 9, 7), (1, 10 ** 9)),
    ((1, 10 ** 399), (3 ** 900, 2)), ((-(10 ** 400) + 1, 10 ** 399), (1, 10 ** 399)),
]

NEAR, FAR = (1, 1, 1), (3, 1, 1)
ASKS = [
    ("over", NEAR), ("over", (6, -1, 4)), ("under", NEAR), ("under", (1, 0, 2)), ("roof", NEAR, FAR),
    ("roof", (1, 0, 2), (1, 0, 1)), ("roof", (1, -1, 2), (1, 7, 1)), ("low", (1, 1)), ("low", (22, 7)),
    ("dives", (0, 1), (0, 1)), ("dives", (2, 1), (-1, 3)), ("climbs", (0, 1), (-1, 1)), ("climbs", (1, 2), (5, 1)),
    ("quick", (1, 4)), ("slow", (1, 10 ** 9)), ("over", AHEAD[-1]), ("quick", (10 ** 400, 3)),
]
NO_ASKS = STRANGE + [
    "over", ("over",), ("over", NEAR, FAR), ("over", NEAR, NEAR, NEAR), ["over", NEAR], ("over", [1, 1, 1]),
    ("over", (0, 1, 1)), ("over", (-1, 1, 1)), ("over", (2, 2, 2)), ("over", (1, 1, 0)), ("over", (1, 1, True)),
    ("over", (1, 2)), ("over", None), ("over", TOUCHY), (TOUCHY, NEAR), (NEAR, "over"), ("under",),
    ("under", (0, 1, 1)), ("under", NEAR, FAR), ("Over", NEAR), ("over ", NEAR), ("", NEAR), (b"over", NEAR),
    (("over",), NEAR), (None, NEAR), ("above", NEAR), ("post", NEAR), ("roof", NEAR), ("roof", FAR, NEAR),
    ("roof", NEAR, NEAR), ("roof", NEAR, (2, 5, 2)), ("roof", NEAR, FAR, FAR), ("roof", (NEAR, FAR)),
    ("roof", (0, 1, 1), FAR), ("roof", NEAR, (6, 2, 2)), ("roof", NEAR, TOUCHY), ("roof", TOUCHY, FAR),
    ["roof", NEAR, FAR], ("roof", [1, 1, 1], FAR), ("over", (1, 2, 3, 4)), ("low",), ("low", (0, 1)), ("low", (-1, 2)),
    ("low", 1), ("low", (2, 2)), ("low", (True, 2)), ("low", (1, 2), (1, 2)), ("low", [1, 2]), ("quick", (0, 1)),
    ("quick", (-1, 2)), ("quick", NEAR), ("quick", 1), ("quick", (1, 0)), ("quick",), ("slow", (0, 1)),
    ("slow", (-5, 2)), ("slow", (1, 2), (0, 1)), ("slow", True), ("slow", [1, 2]), ("slow", TOUCHY), ("dives", (1, 2)),
    ("dives", (-1, 2), (1, 2)), ("dives", (1, 2), 1), ("dives", 0, (1, 2)), ("dives", (2, 4), (1, 2)),
    ("dives", (1, 2), (2, 4)), ("dives", [1, 2], (1, 2)), ("dives", (1, 2), [1, 2]), ("dives", (False, 1), (1, 2)),
    ("dives", (1, 2), (1, 2), (1, 2)), ("climbs", (1, 2)), ("climbs", (-1, 10 ** 400), (1, 2)),
    ("climbs", (1, 2), None), ("climbs", TOUCHY, (1, 2)), ("climbs", (1, 2), TOUCHY), ("climbs", NEAR, (1, 2)),
    ("climb", (1, 2), (1, 2)), (("over", NEAR),), ("over", ("over", NEAR)),
]
# Values that are no asks, each beside the index that is told.
WRONG_ASKS = [(value, None) for value in STRANGE if not isinstance(value, tuple)] + [
    (0, None), (1, None), ([("over", NEAR)], None), ("over", None), ({("over", NEAR): 1}, None),
] + [((value,), 0) for value in NO_ASKS] + [
    (("over", NEAR), 0), ((("over", NEAR), TOUCHY), 1), ((("over", NEAR), ("low", (1, 1)), ("over", (0, 1, 1)), 7), 2),
    ((("low", (1, 1)),) * 7 + (("low", (0, 1)),), 7), ((("low", (1, 1)),) * 8 + (("low", (0, 1)),), 8),
    ((("low", (1, 1)),) * 9, 8), ((("low", (1, 1)),) * 60, 8), ((("low", (1, 1)),) * 3 + (None,) * 20, 3),
    ((TOUCHY,) * 9, 0), ((("over", NEAR), [("over", NEAR)]), 1),
]

NO_WHOLES = STRANGE + [(1, 2), (0, 1), ((0, 1), 0, (0, 1)), (1, 0, 1), ((0,),), "0", "1", b"1", [0], {0: 1}]
NO_MANY = NO_WHOLES + [0, -1, -10, 10 ** 12 + 1, 10 ** 400]

YARD = ((1, 0, 1), (2, 0, 1), (3, 1, 1))
# Eight corners, and one more.
LONG = tuple([(distance, 0, 1) for distance in range(1, 10)])
GROUNDS = [
    (NEAR, FAR), YARD, LONG[:8], ((1, 5, 2), (1, -5, 1)), ((1, 0, 10 ** 399), (10 ** 400 - 1, -1, 3)),
    ((1, -1, 1), (3, -2, 2), (2, -1, 1)),
]
# Values that are no grounds, each beside the index that is told.
WRONG_GROUNDS = [
    (value, 0 if isinstance(value, tuple) and len(value) >= 2 else None) for value in STRANGE
] + [
    (0, None), ("ab", None), ([NEAR, FAR], None), ({NEAR: 1, FAR: 2}, None), (NEAR, 0), ((NEAR,), None),
    ((TOUCHY,), None), ((NEAR, NEAR), 1), ((FAR, NEAR), 1), ((NEAR, (1, 2, 1)), 1), ((NEAR, (2, 3, 2)), 1),
    ((NEAR, FAR, FAR), 2), ((NEAR, FAR, (2, 0, 1)), 2), ((NEAR, [3, 1, 1]), 1), ((NEAR, (2, 2, 2)), 1),
    ((NEAR, (6, 2, 2)), 1), ((NEAR, TOUCHY), 1), ((TOUCHY, FAR), 0), (((0, 1, 1), FAR), 0), (((-1, 1, 1), FAR), 0),
    ((NEAR, (2, 1, 0)), 1), ((NEAR, (True, 1, 2)), 1), ((NEAR, None, FAR), 1), (((1, 1), (3, 1)), 0),
    (("over", NEAR), 0), ((("over", NEAR), ("over", FAR)), 0), (YARD + (NEAR,), 3), (LONG, 8), (LONG[:8] + (NEAR,), 8),
    (LONG[:8] + (TOUCHY,), 8), (LONG[:7] + (TOUCHY, TOUCHY), 7), (LONG[:3] + LONG[:6], 3),
    (LONG + tuple([(distance, 0, 1) for distance in range(10, 61)]), 8),
] + [((NEAR, value), 1) for value in NO_PLACES]

GUARDS = [("post", NEAR), ("curtain", NEAR), ("post", (6, -1, 4)), ("curtain", (1, 0, 2)), ("post", AHEAD[-1])]
NO_GUARDS = STRANGE + [
    "post", ("post",), ("post", NEAR, FAR), ["post", NEAR], ("post", [1, 1, 1]), ("post", (0, 1, 1)),
    ("post", (-1, 1, 1)), ("post", (2, 2, 2)), ("post", (1, 1, 0)), ("post", (1, 1, True)), ("post", (1, 2)),
    ("post", None), ("post", TOUCHY), (TOUCHY, NEAR), (NEAR, "post"), ("curtain",), ("curtain", (0, 1, 1)),
    ("curtain", (1, 2)), ("Post", NEAR), ("post ", NEAR), ("", NEAR), (b"post", NEAR), (("post",), NEAR), (None, NEAR),
    ("over", NEAR), ("under", NEAR), ("roof", NEAR, FAR), ("curtain", ("post", NEAR)), (("post", NEAR),), NEAR,
]
POST = ("post", NEAR)
WRONG_GUARDS = [
    (value, 0 if isinstance(value, tuple) and len(value) > 0 else None) for value in STRANGE
] + [
    (0, None), ("post", None), ([POST], None), ({POST: 1}, None), (POST, 0), ((POST, TOUCHY), 1), ((TOUCHY, POST), 0),
    ((POST, POST, ("post", (0, 1, 1)), 7), 2), ((POST,) * 9, 8), ((POST,) * 60, 8), ((POST,) * 8 + (TOUCHY,), 8),
    ((POST,) * 7 + (TOUCHY, TOUCHY), 7), ((POST, [POST]), 1), ((POST, (POST,)), 1),
] + [((value,), 0) for value in NO_GUARDS]

STREAMS = [
    ((0, 0, 1), 1, JETS[0]), ((-3, 7, 2), -1, JETS[1]), ((10 ** 400 - 1, 0, 7), 1, JETS[4]), ((0, -1, 1), -1, JETS[2]),
]
NO_STREAMS = STRANGE + [
    JETS[0], (NEAR, 1), (NEAR, 1, JETS[0], 1), [NEAR, 1, JETS[0]], (NEAR, 0, JETS[0]), (NEAR, 2, JETS[0]),
    (NEAR, -2, JETS[0]), (NEAR, True, JETS[0]), (NEAR, False, JETS[0]), (NEAR, (1, 1), JETS[0]), (NEAR, "1", JETS[0]),
    (NEAR, None, JETS[0]), (NEAR, TOUCHY, JETS[0]), (TOUCHY, 1, JETS[0]), (NEAR, 1, TOUCHY), (None, 1, JETS[0]),
    ((2, 2, 2), 1, JETS[0]), ((1, 1, 0), 1, JETS[0]), ((1, 1), 1, JETS[0]), ([1, 1, 1], 1, JETS[0]),
    (NEAR, 1, ((1, 1), (0, 1))), (NEAR, 1, ((1, 1), (-1, 1))), (NEAR, 1, ((2, 2), (1, 1))), (NEAR, 1, (1, 1)),
    (NEAR, 1, [(1, 1), (1, 4)]), (1, NEAR, JETS[0]), (JETS[0], 1, NEAR), (NEAR, 1, None), (NEAR, 1, NEAR),
    (NEAR, 10 ** 400, JETS[0]),
]

HEAD_ROW = ("head", (2, 1), InvalidHead, NO_FRACTIONS + NOT_ABOVE_ZERO)
ASKS_ROW = ("asks", (("over", (2, 1, 1)), ("low", (5, 1))), InvalidAsks, WRONG_ASKS)
ASK_ROW = ("ask", ("over", (1, 2, 1)), InvalidAsk, NO_ASKS)
JET_ROW = ("jet", ((1, 1), (1, 4)), InvalidJet, NO_JETS)
PLACE_ROW = ("place", (2, 1, 1), InvalidPlace, NO_PLACES)
DISTANCE_ROW = ("distance", (1, 2), InvalidDistance, NO_FRACTIONS + NOT_ABOVE_ZERO)
MANY_ROW = ("many", 10, InvalidNumber, NO_MANY)
GROUND_ROW = ("ground", YARD, InvalidGround, WRONG_GROUNDS)
# Of the edges of the yard.
INDEX_ROW = ("index", 1, InvalidIndex, NO_WHOLES + [-1, -2, 2, 3, 10 ** 400, -(10 ** 400)])
GUARDS_ROW = ("guards", (("curtain", (1, 1, 2)), POST), InvalidGuards, WRONG_GUARDS)
STREAM_ROW = ("stream", STREAMS[0], InvalidStream, NO_STREAMS)
WITH_INDEX = (InvalidAsks, InvalidGround, InvalidGuards)


def row_for(name, row):
    """The row of a parameter, for one of another name that is checked in the same way."""
    return (name,) + row[1:]


def error_of(function, *arguments, **named):
    """The error that a call raises; None if it raises none."""
    try:
        function(*arguments, **named)
    except Exception as error:
        return error
    return None


def wrong_ones(row):
    """The wrong values of a row, each beside the index that is told, if any."""
    return row[3] if row[2] in WITH_INDEX else [(wrong, None) for wrong in row[3]]


def check_arguments(case, function, rows):
    """Pass every mix of right and wrong values.

    For each parameter in the order of the signature there is a row: its name, a right value, the class of errors
    and the wrong values. The first wrong argument has to be told, by position and by name.
    """
    first_wrong = [wrong_ones(row)[0][0] for row in rows]
    for at, row in enumerate(rows):
        name, _, error_class, _ = row
        for wrong, index in wrong_ones(row):
            for later in ([row[1] for row in rows[at + 1:]], first_wrong[at + 1:]):
                values = [row[1] for row in rows[:at]] + [wrong] + later
                by_name = dict(zip([row[0] for row in rows], values))
                for error in (error_of(function, *values), error_of(function, **by_name)):
                    case.assertIs(error.__class__, error_class, (function.__name__, name, at))
                    if error_class in WITH_INDEX:
                        case.assertEqual((error.index.__class__, error.index), (index.__class__, index))
                    else:
                        case.assertIs(error.given, wrong)
