"""What is said to a console, and what it says (spoutlines/consoles.py in the document)."""

from spoutlines.asks import is_ask
from spoutlines.forms import are_asks, is_head
from spoutlines.numbers import is_fraction
from spoutlines.places import is_place
from spoutlines.wishes import is_name


def read_whole(text):
    """The whole number that is written so; None for any other text."""
    digits = text.removeprefix("-")
    if not digits.isascii() or not digits.isdigit():
        return None
    number = int(text)
    # This bars zeros ahead of a number, and the minus of 0.
    return number if str(number) == text else None


def read_wholes(words):
    """The whole numbers that are written by these words, None for each other word."""
    return tuple([read_whole(word) for word in words])


def read_fraction(text):
    """The fraction that is written so; None for any other text."""
    value = read_wholes(text.split("/"))
    return value if is_fraction(value) else None


def read_place(text):
    """The place that is written so; None for any other text."""
    value = read_wholes(text.split(" "))
    return value if is_place(value) else None


def read_ask(text):
    """The ask that is written so; None for any other text."""
    word, *words = text.split(" ")
    if word in ("over", "under", "roof"):
        values = [read_wholes(words[at:at + 3]) for at in range(0, len(words), 3)]
    else:
        values = [read_fraction(one) for one in words]
    ask = (word,) + tuple(values)
    return ask if is_ask(ask) else None


def read_spout(text):
    """(HEAD, ASKS) of the spout that is written so; None for any other text."""
    first, *others = text.split("; ")
    head, asks = read_fraction(first), tuple([read_ask(one) for one in others])
    return (head, asks) if is_head(head) and are_asks(asks) else None


def read_phrase(line):
    """(WORD, NAME, WHAT) for a line, NAME and WHAT None where there is none; None for a line that has no form."""
    if line in ("undo", "names"):
        return (line, None, None)
    word, _, rest = line.partition(" ")
    if word in ("drop", "spout"):
        return (word, rest, None) if is_name(rest) else None
    name, _, text = rest.partition(": ")
    if word == "put":
        what = read_spout(text)
    elif word == "side":
        what = read_place(text)
    elif word == "say":
        what = read_ask(text)
    else:
        return None
    return (word, name, what) if is_name(name) and what is not None else None


def written_fraction(fraction):
    return f"{fraction[0]}/{fraction[1]}"


def written_value(value):
    """The text of a fraction, or of a point."""
    if len(value) == 2:
        return written_fraction(value)
    return " ".join([str(number) for number in value])


def written_ask(ask):
    return " ".join([ask[0]] + [written_value(value) for value in ask[1:]])


def written_spout(head, asks):
    return "; ".join([written_fraction(head)] + [written_ask(ask) for ask in asks])
