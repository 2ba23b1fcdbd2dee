"""Names of spouts, and wishes about them (point 40 of the document)."""

from spoutlines.fits import fits
from spoutlines.forms import has_form
from spoutlines.guards import past_guards
from spoutlines.sayings import all_do
from spoutlines.strikes import is_struck
from spoutlines.wetness import with_place

LONGEST_NAME = 12
WISHES = ("fits", "wet", "dry", "sure", "guarded", "unstruck")


def is_name(value):
    if not isinstance(value, str) or len(value) > LONGEST_NAME:
        return False
    return value.isascii() and value.isalpha() and value.islower()


def is_wish(value):
    if not isinstance(value, tuple) or len(value) < 2 or not isinstance(value[0], str):
        return False
    return value[0] in WISHES and is_name(value[1]) and has_form(value[0], value[2:])


def holds(wish, head, asks):
    """Whether the wish holds for the good jets of this head and these asks; nothing is checked here."""
    word, rest = wish[0], wish[2:]
    if word == "fits":
        return fits(head, asks)
    if word == "wet":
        return fits(head, with_place(asks, rest[0]))
    if word == "dry":
        return not fits(head, with_place(asks, rest[0]))
    if word == "sure":
        return all_do(head, asks, rest)
    if word == "guarded":
        return not fits(head, past_guards(asks, rest[0], rest[1]))
    return not is_struck(head, asks, rest[0], rest[1])
