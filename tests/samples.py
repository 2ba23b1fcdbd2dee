"""Values of many kinds, and a check of errors, that several tests use."""


class Touchy:
    """A value that may be looked at by its class alone."""

    def refuse(self, *told):
        raise RuntimeError("this value must not be asked anything")

    __eq__ = __ne__ = __lt__ = __le__ = __gt__ = __ge__ = refuse
    __hash__ = __bool__ = __len__ = __iter__ = __getitem__ = __contains__ = refuse
    __int__ = __index__ = __add__ = __sub__ = __mul__ = __neg__ = __repr__ = __str__ = refuse


def nested(depth):
    value = ()
    for _ in range(depth - 1):
        value = (value,)
    return value


TOUCHY = Touchy()

# Nothing among these is a fraction, a surd, a point, a whole number or anything else that is asked for.
STRANGE = [
    None, True, False, (), [], {}, set(), frozenset(), "", "1/2", "12", "123", b"", b"12", b"123", (1,), [1, 2],
    [1, 2, 3], ((1, 2),), ((1, 2), (3, 4)), (None, None), (None, None, None), ("1", "2"), ("1", "2", "3"), {1: 2},
    {1: 2, 3: 4}, {1, 2}, {1, 2, 3}, range(2), range(3), object(), object, int, len, Ellipsis, NotImplemented,
    ValueError("1"), 1j, nested(14), TOUCHY, (TOUCHY,), (TOUCHY, TOUCHY), (TOUCHY, TOUCHY, TOUCHY), (1, TOUCHY),
    (1, 2, TOUCHY), (TOUCHY, 0, (0, 1)), ((1, 2), TOUCHY, (2, 1)), ((1, 2), 1, TOUCHY), (nested(13), 1),
    iter((1, 2)), iter((1, 2, 3)), (1, 2, 3, 4), ([1], [2]), ([1], [2], [3]), (1j, 1), (b"1", 1),
]

NO_FRACTIONS = STRANGE + [
    0, 1, -1, 2, (1, 2, 1), (0, 2), (2, 4), (6, 3), (-2, 2), (10 ** 30, 10 ** 29), (3, 0), (0, 0), (1, -1), (0, -1),
    (-3, -4), (True, 2), (1, True), (False, 1), (0, True), ((1, 2), 1), (1, (2, 1)), (None, 1), (1, None), ("1", 2),
    (1, "2"), [(1, 2)], ((0, 1), 0, (0, 1)), (1, 1, 1),
]
FRACTIONS = [
    (0, 1), (1, 1), (-1, 1), (1, 2), (-1, 2), (7, 3), (-22, 7), (10 ** 9, 10 ** 9 - 1), (-(10 ** 400) + 1, 10 ** 399),
    (1, 10 ** 399), (3 ** 900, 2 ** 1400),
]

NO_SURDS = STRANGE + [
    0, 1, (0, 1), (1, 2), ((1, 2), 0), ((1, 2), 0, (0, 1), 0), [(1, 2), 0, (0, 1)], ((1, 2), [0], (0, 1)),
    ((1, 2), 0, [0, 1]), ([1, 2], 0, (0, 1)), ((2, 4), 0, (0, 1)), ((1, 0), 0, (0, 1)), ((1, -2), 0, (0, 1)),
    ((True, 2), 0, (0, 1)), ((1, 2), 0, (0, True)), ((1, 2), False, (0, 1)), ((1, 2), True, (2, 1)),
    ((1, 2), 2, (2, 1)), ((1, 2), -2, (2, 1)), ((1, 2), (1, 1), (2, 1)), ((1, 2), "1", (2, 1)), ((1, 2), None, (0, 1)),
    ((1, 2), 0, (1, 1)), ((1, 2), 0, (2, 1)), ((1, 2), 0, (-1, 1)), ((1, 2), 0, (0, 2)), ((1, 2), 0, None),
    ((1, 2), 1, (0, 1)), ((1, 2), -1, (0, 1)), ((1, 2), 1, (-2, 1)), ((1, 2), 1, (1, 1)), ((1, 2), 1, (4, 1)),
    ((1, 2), -1, (4, 9)), ((1, 2), -1, (1, 16)), ((1, 2), 1, (4, 2)), ((1, 2), 1, (2, 0)), ((1, 2), 1, (2, -1)),
    ((1, 2), 1, (10 ** 400, 1)), ((1, 2), 1, (1, (10 ** 100 + 1) ** 2)), ((1, 2), 1, 2), (1, 1, 2), (1, 0, 0),
    (0, 0, 1), ((0, 1), (0, 1), (0, 1)), ((1, 2), 10 ** 30, (2, 1)), (((0, 1), 0, (0, 1)), 0, (0, 1)),
]
SURDS = [
    ((0, 1), 0, (0, 1)), ((1, 2), 0, (0, 1)), ((-22, 7), 0, (0, 1)), ((1, 2), 1, (2, 1)), ((1, 2), -1, (2, 1)),
    ((0, 1), 1, (1, 2)), ((-5, 3), -1, (2, 3)), ((0, 1), 1, (8, 1)), ((0, 1), 1, (4, 3)), ((0, 1), -1, (3, 4)),
    ((10 ** 300 + 1, 10 ** 300), 1, (10 ** 399, 1)), ((0, 1), 1, (10 ** 400 + 1, 1)), ((0, 1), 1, (1, 10 ** 400 - 1)),
]

NO_POINTS = STRANGE + [
    0, 1, (1, 2), (0, 1), [1, 2, 3], (1, 2, 3, 1), (1, 2, 0), (1, 2, -1), (0, 0, 0), (0, 0, 2), (2, 4, 6), (-3, 6, 9),
    (3, 0, 3), (True, 2, 3), (1, False, 3), (1, 2, True), ((1, 1), (2, 1), (3, 1)), ((1, 1), 2, 3), (1, None, 2),
    (1, "2", 3), ("1", 2, 3), (None, 0, 1), (1, 0, None), ((1, 2, 3),), ((1, 2, 3), (1, 2, 3), (1, 2, 3)),
    ((1, 2), 0, (0, 1)), (10 ** 30, 10 ** 30, 10 ** 30),
]
AHEAD = [
    (1, 0, 1), (1, 0, 2), (6, -1, 4), (2, 4, 3), (2, 3, 2), (6, 10, 15), (10 ** 400 - 1, -(10 ** 400), 10 ** 399),
]
NOT_AHEAD = [(0, 0, 1), (0, 1, 1), (0, -1, 2), (-1, 0, 1), (-6, 1, 4), (-1, 10 ** 400, 3)]


def error_of(function, *arguments, **named):
    """The error that a call raises; None if it raises none."""
    try:
        function(*arguments, **named)
    except Exception as error:
        return error
    return None


def check_arguments(case, function, rows):
    """Pass every mix of right and wrong values.

    For each parameter in the order of the signature there is a row: its name, a right value, the class of errors
    and the wrong values. The first wrong argument has to be told, by position and by name.
    """
    for at, (name, _, error_class, wrong_values) in enumerate(rows):
        for wrong in wrong_values:
            later_ones = [row[1] for row in rows[at + 1:]], [row[3][0] for row in rows[at + 1:]]
            for later in later_ones:
                values = [row[1] for row in rows[:at]] + [wrong] + later
                by_name = dict(zip([row[0] for row in rows], values))
                for error in (error_of(function, *values), error_of(function, **by_name)):
                    case.assertIs(error.__class__, error_class, (function.__name__, name, at))
                    case.assertIs(error.given, wrong)
