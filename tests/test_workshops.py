"""spoutlines.workshops (point 40 of the document)."""

import unittest

from spoutlines.errors import (
    Broken, InUse, InvalidAsks, InvalidHead, InvalidIndex, InvalidName, InvalidWish, NothingToUndo, UnknownName,
)
from spoutlines.fits import any_jet
from spoutlines.grounds import jet_striking, struck_edges
from spoutlines.guards import is_guarded
from spoutlines.places import place_of
from spoutlines.sayings import entails, status_of
from spoutlines.wetness import is_wet
from spoutlines.workshops import Workshop
from tests.oracle import Maker, number, pair
from tests.samples import (
    ASKS_ROW, HEAD_ROW, NO_ASKS, NO_PLACES, NO_WHOLES, STRANGE, TOUCHY, WRONG_GROUNDS, WRONG_GUARDS, YARD,
    check_arguments, error_of,
)

ONE, TWO, HALF = (1, 1), (2, 1), (1, 2)
WALL, HIGH = ("over", (2, 1, 1)), ("over", (1, 1, 2))
RIM = (1, 0, 1)
CURTAIN, POST = ("curtain", (1, 1, 2)), ("post", (1, 2, 2))
NAMES = ["a", "tap", "z", "abcdefghijkl", "mnopqrstuvwx", "yz"]
NO_NAMES = STRANGE + [
    "", "A", "Tap", "taP", "tap ", " tap", "ta p", "tap1", "1", "a1", "abcdefghijklm", "a" * 13, "a" * 4000, "tap\n",
    "a-b", "a_b", "a.b", "a:b", "{", "`", "@", "[", b"tap", ["tap"], ("tap",), ("t", "a", "p"), 0, 1, "~", "tap;",
]
# For the head 1 and no asks: all these hold.
HOLDING = [
    ("fits", "tap"), ("wet", "tap", RIM), ("dry", "tap", (1, 1, 1)), ("sure", "tap", ("under", (4, 3, 4))),
    ("guarded", "tap", RIM, (POST,)), ("unstruck", "tap", ((1, 0, 1), (3, 0, 1), (4, 0, 1)), 1),
]
FAILING = [
    ("wet", "tap", (1, 1, 1)), ("dry", "tap", RIM), ("sure", "tap", ("under", (2, -1, 4))),
    ("guarded", "tap", RIM, (CURTAIN,)), ("unstruck", "tap", YARD, 0), ("unstruck", "tap", YARD, 1),
]
# With no good jet these do not hold, all others do.
NEED_A_JET = ("fits", "wet")
NO_WISHES = [value for value in STRANGE] + [
    "fits", ("fits",), ("fits", "Tap"), ("fits", ""), ("fits", "a" * 13), ("fits", "tap", ()), ("fits", "tap", RIM),
    ["fits", "tap"], ("Fits", "tap"), ("fits ", "tap"), (b"fits", "tap"), ("fits", b"tap"), ("fits", ("tap",)),
    ("fits", 1), ("fits", None), ("fits", TOUCHY), (TOUCHY, "tap"), (("fits",), "tap"), ("tap", "fits"), ("wet",),
    ("wet", "tap"), ("wet", "tap", RIM, RIM), ("wet", RIM, "tap"), ("wet", "tap1", RIM), ("wet", "tap", [1, 0, 1]),
    ("dry", "tap"), ("dry", "tap", RIM, ()), ("dry", "TAP", RIM), ("dry", "tap", (0, 1, 1)), ("dry", "tap", TOUCHY),
    ("sure", "tap"), ("sure", "tap", (WALL,)), ("sure", "tap", WALL, WALL), ("sure", "tap", ()), ("sure", "a b", WALL),
    ("sure", "tap", "over"), ("sure", "tap", RIM), ("guarded", "tap", RIM), ("guarded", "tap", (POST,)),
    ("guarded", "tap", RIM, ()), ("guarded", "tap", RIM, POST), ("guarded", "tap", (POST,), RIM),
    ("guarded", "tap", RIM, (POST,), 0), ("guarded", "tap", RIM, [POST]), ("guarded", "tap", (1, 0, 2), (POST,)),
    ("guarded", "tap", RIM, (POST, ("curtain", RIM))), ("guarded", "tap", RIM, (("post", (2, 0, 1)), POST)),
    ("guarded", "tap", (0, 1, 1), (POST,)), ("guarded", "", RIM, (POST,)), ("unstruck", "tap", YARD),
    ("unstruck", "tap", YARD, 2), ("unstruck", "tap", YARD, -1), ("unstruck", "tap", YARD, True),
    ("unstruck", "tap", YARD, (0,)), ("unstruck", "tap", YARD, 0, 0), ("unstruck", "tap", 0, YARD),
    ("unstruck", "tap", YARD[:1], 0), ("unstruck", "tap", list(YARD), 0), ("unstruck", "tap", YARD[::-1], 0),
    ("unstruck", "x1", YARD, 1), ("struck", "tap", YARD, 1), ("no jet", "tap"), ("let by", "tap", RIM, (POST,)),
    ("not sure", "tap", WALL), ("meetings", "tap"), ("meetings", "tap", 1), (True, "tap"), (1, "tap"), ("", "tap"),
] + [("wet", "tap", value) for value in NO_PLACES] + [("sure", "tap", value) for value in NO_ASKS] + [
    ("guarded", "tap", (9, 0, 1), value) for value, _ in WRONG_GUARDS
] + [("unstruck", "tap", value, 0) for value, _ in WRONG_GROUNDS] + [
    ("unstruck", "tap", YARD, value) for value in NO_WHOLES + [2, 3, -1, 10 ** 400]
]


def holds(wish, head, asks):
    """What the function of the wish's promise says."""
    word, rest = wish[0], wish[2:]
    if word == "fits":
        return any_jet(head, asks) is not None
    if word == "wet":
        return is_wet(head, asks, rest[0])
    if word == "dry":
        return not is_wet(head, asks, rest[0])
    if word == "sure":
        told = entails(head, asks, rest)
        assert any_jet(head, asks) is None or told is (status_of(head, asks, rest[0]) == "sure")
        return told
    if word == "guarded":
        return is_guarded(head, asks, rest[0], rest[1])
    told = rest[1] in struck_edges(head, asks, rest[0])
    assert told is (jet_striking(head, asks, rest[0], rest[1]) is not None)
    return not told


def look_of(shop):
    """All that can be seen of a workshop."""
    return (shop.names, [shop.named(name) for name in shop.names], shop.wishes, len(shop))


def undone(shop):
    """All that can be seen of it, change by change back to the beginning; it is empty then."""
    found = [look_of(shop)]
    while len(shop):
        shop.undo()
        found.append(look_of(shop))
    return found


def shop_with(*names):
    shop = Workshop()
    for name in names:
        shop.put(name, ONE, ())
    return shop


class WorkshopCase(unittest.TestCase):

    def check_error(self, shop, error_class, told, function, *arguments, **named):
        """The call raises this, with this as `given` or `index`, and changes nothing."""
        before = look_of(shop)
        error = error_of(function, *arguments, **named)
        self.assertIs(error.__class__, error_class, (arguments, named))
        if error_class in (Broken, InUse):
            self.assertEqual(error.index, told)
        elif error_class is not NothingToUndo:
            self.assertIs(error.given, told)
        self.assertEqual(look_of(shop), before)


class SpoutsTest(WorkshopCase):

    def test_an_empty_one(self):
        shop = Workshop()
        self.assertEqual((shop.names, shop.wishes, len(shop)), ((), (), 0))
        self.assertIs(bool(shop), True)
        self.assertEqual((shop.names.__class__, shop.wishes.__class__), (tuple, tuple))

    def test_put_and_named(self):
        shop = Workshop()
        self.assertIs(shop.put("tap", TWO, (WALL,)), None)
        self.assertEqual(shop.named("tap"), (TWO, (WALL,)))
        self.assertIs(shop.put(asks=(), head=ONE, name="ab"), None)
        self.assertEqual((shop.names, len(shop)), (("ab", "tap"), 2))
        # No jet of this head is good, which is no matter.
        shop.put("tap", HALF, (WALL,))
        self.assertEqual((shop.named("tap"), shop.named(name="ab"), len(shop)), ((HALF, (WALL,)), (ONE, ()), 3))
        # A change that leaves all as it was is one, too.
        shop.put("tap", HALF, (WALL,))
        self.assertEqual(len(shop), 4)

    def test_drop(self):
        shop = shop_with("tap", "a")
        self.assertIs(shop.drop("tap"), None)
        self.assertEqual((shop.names, len(shop)), (("a",), 3))
        shop.drop(name="a")
        self.assertEqual((shop.names, len(shop), bool(shop)), ((), 4, True))
        self.check_error(shop, UnknownName, "tap", shop.named, "tap")

    def test_names(self):
        shop = Workshop()
        for name in NAMES:
            shop.put(name, ONE, ())
            self.assertIs(name in shop, True)
        self.assertEqual(shop.names, tuple(sorted(NAMES)))
        self.assertEqual(shop.names, ("a", "abcdefghijkl", "mnopqrstuvwx", "tap", "yz", "z"))
        for name in NO_NAMES:
            self.check_error(shop, InvalidName, name, shop.put, name, ONE, ())

    def test_in(self):
        shop = shop_with("tap")
        for value in STRANGE + NO_NAMES + ["ta", "tapp", "pat", "ap", ("tap", ONE), ("fits", "tap")]:
            self.assertIs(value in shop, False)
        self.assertIs("tap" in shop, True)
        shop.undo()
        self.assertIs("tap" in shop, False)

    def test_equal_to_itself_alone(self):
        shop, other = Workshop(), Workshop()
        self.assertTrue(shop == shop and not shop != shop)
        self.assertTrue(shop != other and not shop == other)
        for value in STRANGE:
            if value is not TOUCHY:
                self.assertIs(shop == value, False)
                self.assertIs(shop != value, True)
        shop.put("tap", ONE, ())
        self.assertEqual((other.names, len(other)), ((), 0))

    def test_unknown_names(self):
        shop = shop_with("tap")
        for name in NO_NAMES + ["ta", "tapp", "a"]:
            self.check_error(shop, UnknownName, name, shop.drop, name)
            self.check_error(shop, UnknownName, name, shop.named, name)

    def test_wrong_arguments(self):
        shop = shop_with("tap")
        check_arguments(self, shop.put, [("name", "tap", InvalidName, NO_NAMES), HEAD_ROW, ASKS_ROW])
        self.assertEqual(look_of(shop), (("tap",), [(ONE, ())], (), 1))
        self.check_error(shop, InvalidName, "Tap", shop.put, "Tap", 0, 0)
        self.check_error(shop, InvalidHead, 0, shop.put, "tap", 0, 0)
        self.assertEqual(error_of(shop.put, "tap", ONE, (WALL, 0)).index, 1)
        self.assertIs(error_of(shop.put, "tap", ONE, 0).__class__, InvalidAsks)


class WishesTest(WorkshopCase):

    def test_wishes_that_hold(self):
        shop = shop_with("tap")
        for at, wish in enumerate(HOLDING):
            self.assertIs(shop.wish(wish), None)
            self.assertEqual((shop.wishes, len(shop)), (tuple(HOLDING[:at + 1]), at + 2))
        shop.wish(wish=HOLDING[0])
        self.assertEqual(shop.wishes, tuple(HOLDING + HOLDING[:1]))

    def test_wishes_that_do_not_hold(self):
        shop = shop_with("tap")
        for wish in FAILING:
            self.check_error(shop, Broken, 0, shop.wish, wish)
        shop.wish(HOLDING[0])
        shop.wish(HOLDING[1])
        for wish in FAILING:
            self.check_error(shop, Broken, 2, shop.wish, wish)

    def test_with_no_good_jet(self):
        shop = Workshop()
        shop.put("tap", HALF, (WALL,))
        for wish in HOLDING + FAILING:
            if wish[0] in NEED_A_JET:
                self.check_error(shop, Broken, len(shop.wishes), shop.wish, wish)
            else:
                shop.wish(wish)
        self.assertEqual(len(shop.wishes), len(HOLDING + FAILING) - 3)

    def test_wrong_wishes(self):
        shop = shop_with("tap")
        for wish in NO_WISHES:
            self.check_error(shop, InvalidWish, wish, shop.wish, wish)
            self.check_error(shop, InvalidWish, wish, shop.wish, wish=wish)

    def test_wishes_about_unknown_names(self):
        shop = shop_with("tap")
        for wish in HOLDING + FAILING:
            self.check_error(shop, UnknownName, "other", shop.wish, (wish[0], "other") + wish[2:])
        wrong = ("wet", "other", (0, 0, 1))
        self.check_error(shop, InvalidWish, wrong, shop.wish, wrong)

    def test_eight_guards_corners_and_names_of_twelve_letters(self):
        shop = shop_with("abcdefghijkl")
        shop.wish(("guarded", "abcdefghijkl", RIM, (POST,) * 8))
        ground = tuple([(distance, 0, 1) for distance in range(1, 9)])
        shop.wish(("unstruck", "abcdefghijkl", ground, 6))
        self.assertEqual(len(shop.wishes), 2)
        for index in (0, 1):
            self.check_error(shop, Broken, 2, shop.wish, ("unstruck", "abcdefghijkl", ground, index))

    def test_put_keeps_wishes(self):
        shop = shop_with("tap", "a")
        for wish in HOLDING:
            shop.wish(wish)
        # With a greater head what was wet stays so, with less what was dry.
        self.check_error(shop, Broken, 2, shop.put, "tap", TWO, ())
        self.check_error(shop, Broken, 0, shop.put, "tap", HALF, (WALL,))
        self.check_error(shop, Broken, 1, shop.put, "tap", (1, 4), ())
        self.check_error(shop, Broken, 3, shop.put, "tap", pair(1 + number((1, 10 ** 9))), ())
        # Of others the wishes do not speak.
        shop.put("a", TWO, ())
        shop.put("tap", ONE, (("over", (1, -1, 1)),))
        self.assertEqual(shop.named("tap"), (ONE, (("over", (1, -1, 1)),)))

    def test_put_with_a_later_wish_broken(self):
        shop = shop_with("tap", "a")
        shop.wish(("dry", "a", (1, 1, 1)))
        shop.wish(("fits", "tap"))
        shop.wish(("unstruck", "tap", ((1, 0, 1), (3, 0, 1), (4, 0, 1)), 1))
        shop.wish(("dry", "a", (2, 1, 1)))
        self.check_error(shop, Broken, 2, shop.put, "tap", TWO, ())
        self.check_error(shop, Broken, 1, shop.put, "tap", HALF, (WALL,))
        self.check_error(shop, Broken, 0, shop.put, "a", TWO, ())
        self.check_error(shop, Broken, 3, shop.put, "a", TWO, (("under", (10, 9, 10)),))
        shop.lift(2)
        shop.put("tap", TWO, ())
        self.assertEqual(shop.named("tap"), (TWO, ()))

    def test_a_wrong_argument_is_told_before_a_broken_wish(self):
        shop = shop_with("tap")
        shop.wish(("dry", "tap", (1, 1, 1)))
        self.check_error(shop, InvalidHead, (0, 1), shop.put, "tap", (0, 1), (WALL,))
        self.assertEqual(error_of(shop.put, "tap", TWO, (WALL,) * 9).index, 8)

    def test_drop_what_a_wish_names(self):
        shop = shop_with("tap", "a", "b")
        shop.wish(("fits", "a"))
        shop.wish(("fits", "tap"))
        shop.wish(("wet", "tap", RIM))
        shop.wish(("fits", "a"))
        self.check_error(shop, InUse, 1, shop.drop, "tap")
        self.check_error(shop, InUse, 0, shop.drop, "a")
        self.check_error(shop, UnknownName, "c", shop.drop, "c")
        shop.drop("b")
        shop.lift(0)
        self.check_error(shop, InUse, 2, shop.drop, "a")
        shop.lift(2)
        shop.drop("a")
        self.assertEqual((shop.names, shop.wishes), (("tap",), (("fits", "tap"), ("wet", "tap", RIM))))

    def test_lift(self):
        shop = shop_with("tap")
        for wish in HOLDING[:4]:
            shop.wish(wish)
        for index in NO_WHOLES + [-1, 4, 5, 10 ** 400]:
            self.check_error(shop, InvalidIndex, index, shop.lift, index)
        self.assertIs(shop.lift(1), None)
        self.assertEqual(shop.wishes, (HOLDING[0], HOLDING[2], HOLDING[3]))
        shop.lift(index=2)
        shop.lift(0)
        self.assertEqual((shop.wishes, len(shop)), ((HOLDING[2],), 8))
        shop.lift(0)
        self.check_error(shop, InvalidIndex, 0, shop.lift, 0)

    def test_a_wish_holds_just_if_its_function_says_so(self):
        maker = Maker(111)
        told = {}
        for _ in range(150):
            shop = Workshop()
            head, asks = maker.task()
            shop.put("tap", head, asks)
            jet = any_jet(head, asks)
            for wish in made_wishes(maker, jet):
                right = holds(wish, head, asks)
                told[(wish[0], right)] = told.get((wish[0], right), 0) + 1
                if right:
                    shop.wish(wish)
                else:
                    self.check_error(shop, Broken, len(shop.wishes), shop.wish, wish)
        self.assertEqual(len(told), 12)
        self.assertGreater(min(told.values()), 8)


def made_wishes(maker, jet):
    """A wish of each word for the name `tap`, some of them about places on the jet."""
    def near_jet():
        if jet is None or maker.random.random() < 0.4:
            return maker.place()
        return maker.place_on(jet, number(maker.above_zero()))
    at = near_jet()
    near = pair(number((at[0], at[2])) / 2) if at[2] else None
    guards = tuple([(maker.random.choice(("post", "curtain")), place_of(near, maker.fraction())) for _ in range(2)])
    ground, distance = [], 0
    for _ in range(maker.random.randint(2, 4)):
        distance += number(maker.above_zero())
        ground.append(place_of(pair(distance), maker.fraction()))
    ask = maker.ask() if jet is None or maker.random.random() < 0.5 else maker.touched(jet)
    return [
        ("fits", "tap"), ("wet", "tap", near_jet()), ("dry", "tap", near_jet()), ("sure", "tap", ask),
        ("guarded", "tap", at, guards), ("unstruck", "tap", tuple(ground), maker.random.randint(0, len(ground) - 2)),
    ]


class UndoTest(WorkshopCase):

    def test_after_each_kind_of_change(self):
        shop = Workshop()
        looks = [look_of(shop)]
        for change in (lambda: shop.put("tap", ONE, ()), lambda: shop.put("a", TWO, (WALL,)),
                       lambda: shop.wish(("wet", "tap", RIM)), lambda: shop.put("tap", TWO, ()),
                       lambda: shop.wish(("fits", "a")), lambda: shop.lift(1), lambda: shop.drop("a"),
                       lambda: shop.lift(0), lambda: shop.drop("tap")):
            self.assertIs(change(), None)
            looks.append(look_of(shop))
        self.assertEqual(len(shop), 9)
        for look in looks[-2::-1]:
            self.assertIs(shop.undo(), None)
            self.assertEqual(look_of(shop), look)
        for _ in range(2):
            self.check_error(shop, NothingToUndo, None, shop.undo)
        self.assertEqual(look_of(shop), ((), [], (), 0))

    def test_nothing_to_undo(self):
        shop = Workshop()
        self.assertIs(error_of(shop.undo).__class__, NothingToUndo)
        self.assertEqual(vars(error_of(shop.undo)), {})

    def test_errors_are_no_changes(self):
        shop = shop_with("tap")
        shop.wish(("dry", "tap", (1, 1, 1)))
        look = look_of(shop)
        for call in (lambda: shop.put("tap", TWO, ()), lambda: shop.put("Tap", TWO, ()), lambda: shop.drop("tap"),
                     lambda: shop.drop("a"), lambda: shop.wish(("fits",)), lambda: shop.wish(("fits", "a")),
                     lambda: shop.wish(("wet", "tap", (1, 1, 1))), lambda: shop.lift(1), lambda: shop.named("a"),
                     lambda: shop.put("tap", 0, ()), lambda: shop.put("tap", ONE, 0)):
            self.assertIsNot(error_of(call), None)
            self.assertEqual(look_of(shop), look)
        shop.undo()
        self.assertEqual((shop.wishes, len(shop)), ((), 1))
        shop.undo()
        self.assertEqual((shop.names, len(shop)), ((), 0))

    def test_changes_after_undoing(self):
        shop = shop_with("tap", "a")
        shop.undo()
        shop.put("b", TWO, ())
        self.assertEqual((shop.names, len(shop)), (("b", "tap"), 2))
        self.assertEqual([look[0] for look in undone(shop)], [("b", "tap"), ("tap",), ()])


class Stop(Exception):
    """Ends a block."""


class TrialTest(WorkshopCase):

    def test_a_call_alone_changes_nothing(self):
        shop = shop_with("tap")
        before = look_of(shop)
        shop.trial()
        self.assertEqual(look_of(shop), before)
        attempt = shop.trial()
        shop.put("a", ONE, ())
        with attempt as told:
            self.assertIs(told, shop)
        self.assertEqual(shop.names, ("a", "tap"))
        self.assertTrue(attempt)

    def test_a_block_that_ends_well(self):
        shop = shop_with("tap")
        with shop.trial() as told:
            self.assertIs(told, shop)
            told.put("a", ONE, ())
            shop.wish(("fits", "a"))
        self.assertEqual((shop.names, shop.wishes, len(shop)), (("a", "tap"), (("fits", "a"),), 3))
        self.assertEqual([look[3] for look in undone(shop)], [3, 2, 1, 0])

    def check_failing(self, shop, change):
        """A block that makes the change and then fails."""
        before = look_of(shop)
        for error in (Stop("x"), ValueError(3), KeyboardInterrupt(), SystemExit(2), GeneratorExit()):
            try:
                with shop.trial():
                    change()
                    raise error
            except BaseException as caught:
                self.assertIs(caught, error)
            else:
                self.fail("the exception was not passed on")
            self.assertEqual(look_of(shop), before)

    def test_a_block_that_ends_with_an_exception(self):
        shop = shop_with("tap", "a")
        shop.wish(("fits", "tap"))
        self.check_failing(shop, lambda: None)
        self.check_failing(shop, lambda: shop.put("b", ONE, ()))
        self.check_failing(shop, lambda: shop.put("tap", TWO, ()))
        self.check_failing(shop, lambda: shop.drop("a"))
        self.check_failing(shop, lambda: shop.wish(("fits", "a")))
        self.check_failing(shop, lambda: shop.lift(0))
        self.check_failing(shop, lambda: undone(shop))
        self.check_failing(shop, lambda: (undone(shop), shop.put("z", ONE, ()), shop.put("y", ONE, ())))
        looks = undone(shop)
        self.assertEqual([look[0] for look in looks], [("a", "tap"), ("a", "tap"), ("tap",), ()])
        self.assertEqual([look[2] for look in looks], [(("fits", "tap"),), (), (), ()])

    def test_an_error_of_the_workshop_ends_it(self):
        shop = shop_with("tap")
        with self.assertRaises(Broken):
            with shop.trial():
                shop.put("a", ONE, ())
                shop.wish(("wet", "a", (1, 1, 1)))
        self.assertEqual((shop.names, len(shop)), (("tap",), 1))

    def test_leaving_a_block_without_an_exception(self):
        shop = Workshop()

        def left():
            with shop.trial():
                shop.put("a", ONE, ())
                return 5
        self.assertEqual((left(), shop.names), (5, ("a",)))
        for name in ("b", "c"):
            with shop.trial():
                shop.put(name, ONE, ())
                continue
        while True:
            with shop.trial():
                shop.put("d", ONE, ())
                break
        self.assertEqual((shop.names, len(shop)), (("a", "b", "c", "d"), 4))

    def test_undoing_what_was_done_before(self):
        shop = shop_with("tap", "a")
        with shop.trial():
            shop.undo()
            shop.undo()
            self.assertIs(error_of(shop.undo).__class__, NothingToUndo)
            shop.put("z", ONE, ())
        self.assertEqual((shop.names, len(shop)), (("z",), 1))

    def test_trials_within_trials(self):
        shop = shop_with("tap")
        with shop.trial() as outer:
            shop.put("a", ONE, ())
            try:
                with shop.trial() as inner:
                    self.assertIs(inner, outer)
                    shop.put("b", ONE, ())
                    shop.undo()
                    shop.undo()
                    shop.undo()
                    raise Stop()
            except Stop:
                self.assertEqual((shop.names, len(shop)), (("a", "tap"), 2))
            shop.put("c", ONE, ())
        self.assertEqual((shop.names, len(shop)), (("a", "c", "tap"), 3))
        self.assertEqual([look[0] for look in undone(shop)], [("a", "c", "tap"), ("a", "tap"), ("tap",), ()])

    def test_an_outer_one_that_fails_behind_an_inner_one(self):
        shop = shop_with("tap")
        before = look_of(shop)
        for ends_well in (True, False):
            try:
                with shop.trial():
                    shop.put("a", ONE, ())
                    try:
                        with shop.trial():
                            shop.put("b", ONE, ())
                            if not ends_well:
                                raise Stop()
                    except Stop:
                        pass
                    shop.put("c", ONE, ())
                    raise KeyError("d")
            except KeyError:
                self.assertEqual(look_of(shop), before)

    def test_one_trial_used_again(self):
        shop = shop_with("tap")
        attempt = shop.trial()
        for name in ("a", "b"):
            with attempt:
                shop.put(name, ONE, ())
        try:
            with attempt:
                shop.put("c", ONE, ())
                try:
                    with attempt:
                        shop.put("d", ONE, ())
                        raise Stop()
                except Stop:
                    self.assertEqual(shop.names, ("a", "b", "c", "tap"))
                raise Stop()
        except Stop:
            self.assertEqual((shop.names, len(shop)), (("a", "b", "tap"), 3))

    def test_trials_of_two_workshops(self):
        shop, other = shop_with("tap"), shop_with("a")
        try:
            with shop.trial(), other.trial():
                shop.put("b", ONE, ())
                other.put("c", ONE, ())
                raise Stop()
        except Stop:
            self.assertEqual((shop.names, other.names), (("tap",), ("a",)))

    def test_tried(self):
        shop = shop_with("tap")
        told = []

        def action(given):
            told.append(given)
            given.put("a", ONE, ())
            return told
        self.assertIs(shop.tried(action), told)
        self.assertIs(told[0], shop)
        self.assertEqual((shop.names, len(shop)), (("a", "tap"), 2))
        self.assertIs(shop.tried(action=lambda given: None), None)
        self.assertEqual(shop.tried(lambda given: given.names), ("a", "tap"))
        self.assertIs(shop.tried(Workshop.undo), None)
        self.assertEqual(shop.names, ("tap",))

    def test_tried_with_an_exception(self):
        shop = shop_with("tap")
        before, error = look_of(shop), Stop("x")

        def action(given):
            given.put("a", ONE, ())
            given.tried(lambda inner: inner.put("b", ONE, ()))
            self.assertIs(error_of(given.tried, failing).__class__, UnknownName)
            self.assertEqual(given.names, ("a", "b", "tap"))
            raise error

        def failing(given):
            given.undo()
            given.drop("z")
        self.assertIs(error_of(shop.tried, action), error)
        self.assertEqual(look_of(shop), before)


class ModelTest(WorkshopCase):
    """Changes at random beside a list of all states, told once more."""

    def test_made_ones(self):
        for seed in range(12):
            maker = Maker(200 + seed)
            self.shop, self.states, self.counts = Workshop(), [({}, ())], {}
            self.pool = [(maker.above_zero(4), maker.asks(2)) for _ in range(4)]
            for _ in range(60):
                self.step(maker, 0)
                self.check_look()
            self.assertGreater(len(self.counts), 5)

    def check_look(self):
        spouts, wishes = self.states[-1]
        names = tuple(sorted(spouts))
        self.assertEqual(look_of(self.shop), (names, [spouts[name] for name in names], wishes, len(self.states) - 1))
        for wish in wishes:
            self.assertTrue(holds(wish, *spouts[wish[1]]))

    def step(self, maker, depth):
        word = maker.random.choice(("put", "put", "put", "drop", "wish", "wish", "wish", "lift", "undo", "trial"))
        if word == "trial":
            return self.step_trial(maker, depth)
        spouts, wishes = self.states[-1]
        name = maker.random.choice(("a", "b", "tap"))
        call, state, error_class = getattr(self, "try_" + word)(maker, name, spouts, wishes)
        error = error_of(*call)
        self.assertIs(error.__class__, error_class, (call, error))
        if error is None and word == "undo":
            self.states.pop()
        elif error is None:
            self.states.append(state)
        self.counts[(word, error_class)] = True

    def step_trial(self, maker, depth):
        if depth == 3:
            return
        states, fails = list(self.states), maker.random.random() < 0.5
        try:
            with self.shop.trial():
                for _ in range(maker.random.randint(0, 6)):
                    self.step(maker, depth + 1)
                    self.check_look()
                if fails:
                    raise Stop()
        except Stop:
            self.states = states

    def try_put(self, maker, name, spouts, wishes):
        head, asks = maker.random.choice(self.pool)
        broken = [wish for wish in wishes if wish[1] == name and not holds(wish, head, asks)]
        return (self.shop.put, name, head, asks), ({**spouts, name: (head, asks)}, wishes), \
            Broken if broken else None.__class__

    def try_drop(self, maker, name, spouts, wishes):
        error_class = UnknownName if name not in spouts else InUse
        if name in spouts and all(wish[1] != name for wish in wishes):
            error_class = None.__class__
        return (self.shop.drop, name), ({key: spouts[key] for key in spouts if key != name}, wishes), error_class

    def try_wish(self, maker, name, spouts, wishes):
        jet = any_jet(*spouts[name]) if name in spouts else None
        wish = maker.random.choice(made_wishes(maker, jet))
        wish = (wish[0], name) + wish[2:]
        error_class = UnknownName
        if name in spouts:
            error_class = None.__class__ if holds(wish, *spouts[name]) else Broken
        return (self.shop.wish, wish), (spouts, wishes + (wish,)), error_class

    def try_lift(self, maker, name, spouts, wishes):
        index = maker.random.randint(-1, len(wishes))
        is_one = 0 <= index < len(wishes)
        return (self.shop.lift, index), (spouts, wishes[:max(index, 0)] + wishes[index + 1:]), \
            None.__class__ if is_one else InvalidIndex

    def try_undo(self, maker, name, spouts, wishes):
        return (self.shop.undo,), None, NothingToUndo if len(self.states) == 1 else None.__class__


if __name__ == "__main__":
    unittest.main()
