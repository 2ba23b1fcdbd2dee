"""spoutlines.consoles (point 40 of the document, and the forms of lines in its interface)."""

import re
import unittest
from math import gcd

from spoutlines.asks import is_ask
from spoutlines.consoles import Console
from spoutlines.errors import Broken, InUse, InvalidPhrase, NotAWorkshop, NothingToUndo, UnknownName
from spoutlines.fits import any_jet
from spoutlines.sayings import status_of
from spoutlines.wetness import side_of
from spoutlines.workshops import Workshop
from tests.oracle import Maker
from tests.samples import ASKS, NO_PLACES, STRANGE, YARD, error_of

SIGNS = "".join([chr(code) for code in range(32, 127)])
NUMBER = r"(?:0|-?[1-9][0-9]*)"
FRACTION = f"{NUMBER}/[1-9][0-9]*"
POINT = f"{NUMBER} {NUMBER} [1-9][0-9]*"
ASK = (f"(?:over {POINT}|under {POINT}|roof {POINT} {POINT}|(?:dives|climbs) {FRACTION} {FRACTION}"
       f"|(?:quick|slow|low) {FRACTION})")
NAME = "[a-z]{1,12}"
LINES = [
    f"put {NAME}: {FRACTION}(?:; {ASK}){{0,8}}", f"drop {NAME}", "undo", "names", f"spout {NAME}",
    f"side {NAME}: {POINT}", f"say {NAME}: {ASK}",
]
ONE_OF_EACH = [
    "over 1 1 2", "under 2 -1 4", "roof 1 1 1 3 1 1", "dives 0/1 1/1", "climbs 1/2 -1/3", "quick 5/4", "slow 1/9",
    "low 2/1",
]
GOOD_LINES = [
    "put tap: 1/1", "put a: 22/7; over 1 1 2", "put tap: 1/1; " + "; ".join(ONE_OF_EACH), "drop tap", "undo", "names",
    "spout tap", "side tap: 1 -1 2", "side tap: 12 0 1",
] + ["say tap: " + ask for ask in ONE_OF_EACH]


def text_of(ask):
    """The text of an ask, told once more."""
    return " ".join([ask[0]] + [
        "/".join(map(str, value)) if len(value) == 2 else " ".join(map(str, value)) for value in ask[1:]])


def is_told_ask(text):
    """Whether a text that looks like an ask tells one: reduced numbers, places ahead, and what else an ask needs."""
    word, *words = text.split(" ")
    if "/" in text:
        return is_ask((word,) + tuple([tuple(map(int, one.split("/"))) for one in words]))
    numbers = list(map(int, words))
    return is_ask((word,) + tuple([tuple(numbers[at:at + 3]) for at in range(0, len(numbers), 3)]))


def has_a_form(line):
    """Whether the line has one of the forms, told once more by patterns."""
    if not any([re.fullmatch(pattern, line) for pattern in LINES]):
        return False
    for told in re.findall(FRACTION, line):
        upper, lower = map(int, told.split("/"))
        if gcd(upper, lower) != 1:
            return False
    rest = line.partition(": ")[2]
    if line.startswith("side "):
        right, up, unit = map(int, rest.split(" "))
        return right > 0 and gcd(right, up, unit) == 1
    if line.startswith("say "):
        return is_told_ask(rest)
    if line.startswith("put "):
        head, *asks = rest.split("; ")
        return not head.startswith(("-", "0")) and all([is_told_ask(ask) for ask in asks])
    return True


def changed_lines(line):
    """The line with one sign left out, added, exchanged for another one or for its neighbour."""
    for at in range(len(line) + 1):
        yield line[:at] + line[at + 1:]
        yield line[:at] + line[at:at + 2][::-1] + line[at + 2:]
        for sign in SIGNS:
            yield line[:at] + sign + line[at:]
            yield line[:at] + sign + line[at + 1:]


class ConsoleCase(unittest.TestCase):

    def setUp(self):
        self.shop = Workshop()
        self.console = Console(self.shop)

    def say(self, *lines):
        return [self.console.say(line) for line in lines]

    def look(self):
        names = self.shop.names
        return names, [self.shop.named(name) for name in names], self.shop.wishes, len(self.shop)

    def check_error(self, line, error_class, told):
        before = self.look()
        for error in (error_of(self.console.say, line), error_of(self.console.say, line=line)):
            self.assertIs(error.__class__, error_class, line)
            if error_class is InvalidPhrase:
                self.assertIs(error.given, line)
            elif error_class is UnknownName:
                self.assertEqual(error.given, told)
            elif error_class is not NothingToUndo:
                self.assertEqual(error.index, told)
        self.assertEqual(self.look(), before)

    def check_invalid(self, *lines):
        for line in lines:
            self.check_error(line, InvalidPhrase, None)


class MadeTest(ConsoleCase):

    def test_a_console_of_a_workshop(self):
        self.assertTrue(self.console)
        self.assertTrue(Console(shop=self.shop))
        self.assertEqual(Console(self.shop).say("names"), "none")

    def test_not_a_workshop(self):
        for value in STRANGE + [Workshop, self.console, "tap", 0, 1, (self.shop,), [self.shop]]:
            for error in (error_of(Console, value), error_of(Console, shop=value)):
                self.assertIs(error.__class__, NotAWorkshop)
                self.assertIs(error.given, value)

    def test_two_consoles_of_one_workshop(self):
        other = Console(self.shop)
        self.say("put tap: 1/1")
        self.assertEqual(other.say("names"), "tap")
        self.assertEqual(other.say("undo"), "done")
        self.assertEqual(self.say("names"), ["none"])


class SayTest(ConsoleCase):

    def test_put_and_spout(self):
        for count in range(9):
            asks = ONE_OF_EACH[:count]
            text = "; ".join(["22/7"] + asks)
            self.assertEqual(self.say("put tap: " + text, "spout tap"), ["done", text])
            told = [("over", (1, 1, 2)), ("under", (2, -1, 4)), ("roof", (1, 1, 1), (3, 1, 1)),
                ("dives", (0, 1), (1, 1)), ("climbs", (1, 2), (-1, 3)), ("quick", (5, 4)), ("slow", (1, 9)),
                ("low", (2, 1))]
            self.assertEqual(self.shop.named("tap"), ((22, 7), tuple(told[:count])))
        self.assertEqual(len(self.shop), 9)
        self.check_invalid("put tap: 22/7; " + "; ".join(ONE_OF_EACH + ["low 2/1"]))
        self.check_invalid("put tap: 22/7; " + "; ".join(["low 2/1"] * 9))

    def test_names(self):
        self.assertEqual(self.say("names"), ["none"])
        self.say("put tap: 1/1", "put a: 1/1", "put abcdefghijkl: 1/1")
        self.assertEqual(self.say("names"), ["a abcdefghijkl tap"])
        self.say("drop a", "drop abcdefghijkl")
        self.assertEqual(self.say("names"), ["tap"])
        self.say("put none: 1/1", "drop tap")
        self.assertEqual(self.say("names"), ["none"])
        self.assertEqual(self.shop.names, ("none",))

    def test_words_as_names(self):
        for word in ("put", "drop", "undo", "names", "spout", "side", "say", "over"):
            self.assertEqual(
                self.say(f"put {word}: 1/1", f"spout {word}", f"side {word}: 1 0 1", f"drop {word}"),
                ["done", "1/1", "wet", "done"])

    def test_drop_and_undo(self):
        self.assertEqual(self.say("put tap: 1/1", "drop tap", "names", "undo", "names", "undo", "names"),
            ["done", "done", "none", "done", "tap", "done", "none"])
        self.check_error("undo", NothingToUndo, None)
        self.shop.put("tap", (1, 1), ())
        self.shop.wish(("fits", "tap"))
        self.assertEqual(self.say("undo"), ["done"])
        self.assertEqual(self.shop.wishes, ())

    def test_side(self):
        self.say("put tap: 1/1; over 1 1 2")
        self.assertEqual(self.say("side tap: 1 1 1", "side tap: 1 0 1", "side tap: 1 0 2", "side tap: 1 -9 1"),
            ["under", "wet", "over", "over"])
        self.say("put tap: 1/2; over 1 1 2")
        self.assertEqual(self.say("side tap: 1 0 2", "say tap: over 1 1 2"), ["none", "none"])

    def test_say(self):
        self.say("put tap: 1/1; over 1 1 2")
        self.assertEqual(
            self.say("say tap: climbs 0/1 1/1", "say tap: over 1 1 1", "say tap: under 1 0 1",
                "say tap: roof 1 3 1 2 3 1", "say tap: low 1/1", "say tap: low 1/9", "say tap: dives 0/1 2/1",
                "say tap: quick 1/4", "say tap: slow 1/4"),
            ["sure", "never", "open", "sure", "sure", "never", "open", "never", "sure"])

    def test_numbers_below_zero_and_of_many_figures(self):
        great = "7" * 400
        lines = [f"{great}/2", f"1/{great}; over {great} -{great} 2", f"1/2; climbs 0/1 -{great}/3; roof 1 -1 2 1 -1 1"]
        for text in lines:
            self.assertEqual(self.say("put tap: " + text, "spout tap"), ["done", text])
        self.say("put tap: 1/1")
        self.assertEqual(self.say(f"side tap: {great} -{great} 2", f"say tap: dives 0/1 -{great}/2"), ["under", "open"])

    def test_unknown_names(self):
        self.say("put tap: 1/1")
        for line in ("drop a", "spout a", "side a: 1 0 1", "say a: over 1 0 1"):
            self.check_error(line, UnknownName, "a")
        self.check_invalid("side a: 0 0 1", "say a: over 0 0 1", "side a: 1 0", "drop A", "spout a1")

    def test_errors_of_the_workshop(self):
        self.say("put tap: 1/1; over 1 1 2", "put a: 1/1")
        self.shop.wish(("fits", "a"))
        self.shop.wish(("wet", "tap", (1, 0, 1)))
        self.shop.wish(("unstruck", "tap", YARD, 1))
        self.check_error("put tap: 1/2; over 1 1 2", Broken, 1)
        self.check_error("put tap: 1/1", Broken, 2)
        self.check_error("drop tap", InUse, 1)
        self.check_error("drop a", InUse, 0)
        self.check_error("drop b", UnknownName, "b")
        self.check_invalid("put tap: 1/2; over 0 1 2")

    def test_what_is_no_string(self):
        for value in STRANGE + [0, 1, b"names", ["names"], ("names",), ("undo",), self.shop, self.console]:
            if not isinstance(value, str):
                self.check_error(value, InvalidPhrase, None)

    def test_wrong_lines(self):
        self.say("put tap: 1/1")
        self.check_invalid(
            "", " ", "put", "put ", "put tap", "put tap:", "put tap: ", "put tap 1/1", "put tap:1/1",
            "put tap:  1/1", "put  tap: 1/1", " put tap: 1/1", "put tap: 1/1 ", "put tap: 1/1;", "put tap: 1/1; ",
            "put tap: 1/1;over 1 1 2", "put tap: 1/1 ; over 1 1 2", "put tap: 1/1;  over 1 1 2",
            "put tap: 1/1, over 1 1 2", "put tap: over 1 1 2", "put tap: ; over 1 1 2", "put tap: 1/1; ; over 1 1 2",
            "put tap: 1/1; over 1 1 2;", "put : 1/1", "put Tap: 1/1", "put tap1: 1/1", "put abcdefghijklm: 1/1",
            "put t ap: 1/1", "Put tap: 1/1", "PUT tap: 1/1", "put tap: 1/1\n", "drop", "drop ", "drop  tap",
            "drop tap ", "drop tap:", "drop: tap", "drop tap a", "drop\ttap", "undo ", " undo", "undo tap", "Undo",
            "undo:", "undo\n", "names ", "names tap", "name", "spout", "spout tap:", "spout tap ", "spout tap: 1",
            "side", "side tap", "side tap:", "side tap: ", "side tap: 1 0", "side tap: 1 0 1 1",
            "side tap: 1 0 1 2 0 1", "side tap: 1/1 0/1", "side tap: 1/1", "side tap 1 0 1", "side tap: 1  0 1",
            "side tap: 1 0 1 ", "side tap: 1,0,1",
            "side: tap 1 0 1", "say", "say tap", "say tap:", "say tap: ", "say tap: over", "say tap: over 1 1",
            "say tap: over 1 1 2 ", "say tap: over  1 1 2", "say tap: 1 1 2", "say tap: over 1 1 2; under 1 1 2",
            "wish tap", "lift 0", "trial", "help", "put tap: 1/1\nundo", "names;undo")

    def test_wrong_numbers(self):
        for text in (
                "2/4", "1/0", "0/0", "1/-1", "-1/-2", "+1/2", "1/+2", "01/2", "1/02", "-0/1", "--1/2", "1", "1/2/3",
                "1//2", "/2", "1/", "/", "1 /2", "1/ 2", "1_0/3", "0x1/2", "1.0/2", "1e3/7", "one/2", "00/1", "0/2"):
            self.check_invalid(f"put tap: {text}", f"put tap: 1/1; low {text}", f"put tap: 1/1; dives 0/1 {text}")
            self.say("put tap: 1/1")
            self.check_invalid(f"say tap: climbs 0/1 {text}")
            self.say("undo")
        self.check_invalid("put tap: 0/1", "put tap: -1/1", "put tap: 1/1; low 0/1", "put tap: 1/1; quick -1/2",
            "put tap: 1/1; dives -1/2 1/1")
        self.assertEqual(self.say("put tap: 1/1; dives 0/1 0/1", "put tap: 1/1; climbs 0/1 -1/2"), ["done", "done"])
        for text in (
                "2 4 6", "1 1 0", "1 1 -1", "0 1 1", "-1 1 1", "+1 1 1", "1 +1 1", "01 1 1", "1 -0 1", "1 1 01",
                "1 1", "1 1 1 1", "1 0 1.0", "1 1 1_0", "0 0 1", "1 0x1 1", "1 - 1", "- 1 1"):
            self.check_invalid(f"side tap: {text}", f"say tap: over {text}", f"put tap: 1/1; under {text}")

    def test_what_is_no_ask(self):
        for text in (
                "roof 3 1 1 1 1 1", "roof 1 1 1 1 2 1", "roof 1 1 1 2 2 2", "roof 1 1 1", "roof 1 1 1 3 1",
                "over 1/2", "over 1/2 1/2", "over 1 1 2 3 1 1", "under 1 1 2 1", "low 1 1 2", "low 1/2 1/2", "low",
                "dives 1/2", "dives 1/2 1/2 1/2", "dives 1 1 2", "climbs 0/1", "quick 1/2 1/3", "slow 1",
                "above 1 1 2", "post 1 1 2", "Over 1 1 2", "overs 1 1 2", "", "1/2", "tap"):
            self.check_invalid(f"put tap: 1/1; {text}", f"put tap: 1/1; low 1/2; {text}", f"say tap: {text}")

    def test_each_line_changed_by_a_sign(self):
        # What is of no form is told as such, and nothing else is.
        self.say("put tap: 1/1")
        before = self.look()
        valid = 0
        for good in GOOD_LINES:
            self.assertTrue(has_a_form(good), good)
            for line in changed_lines(good if len(good) < 40 else good[:13] + "; " + good[-34:]):
                with_form = has_a_form(line)
                valid += with_form
                error = error_of(self.console.say, line)
                self.assertIs(error.__class__ is InvalidPhrase, not with_form, line)
                if not with_form:
                    self.assertIs(error.given, line)
                    continue
                while len(self.shop) > 1:
                    self.shop.undo()
                if not len(self.shop):
                    self.say("put tap: 1/1")
                self.assertEqual(self.look(), before)
        self.assertGreater(valid, 1000)

    def test_all_asks_that_are_told(self):
        for ask in ASKS:
            line = "put tap: 1/1; " + text_of(ask)
            self.assertEqual(self.say(line, "spout tap"), ["done", line[9:]])
            self.assertEqual(self.shop.named("tap"), ((1, 1), (ask,)))
        for value in NO_PLACES:
            if isinstance(value, tuple) and value and all([isinstance(one, int) and one is not True and one is not False
                                                           for one in value]):
                self.check_invalid("side tap: " + " ".join(map(str, value)))

    def test_made_ones_answer_as_the_functions_do(self):
        maker = Maker(121)
        told = {}
        for _ in range(250):
            head, asks = maker.task()
            jet, at, ask = any_jet(head, asks), maker.place(), maker.ask()
            text = "; ".join([f"{head[0]}/{head[1]}"] + [text_of(one) for one in asks])
            side = "none" if jet is None else side_of(head, asks, at)
            status = "none" if jet is None else status_of(head, asks, ask)
            answers = self.say("put tap: " + text, "spout tap", "side tap: " + " ".join(map(str, at)),
                "say tap: " + text_of(ask))
            self.assertEqual(answers, ["done", text, side, status])
            self.assertEqual(self.shop.named("tap"), (head, asks))
            told[side] = told[status] = True
        self.assertEqual(set(told), {"none", "wet", "over", "under", "sure", "never", "open"})


if __name__ == "__main__":
    unittest.main()
