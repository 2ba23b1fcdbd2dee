"""Consoles, to which a workshop's changes and questions are said in lines of text (point 40 of the document)."""

from spoutlines.errors import InvalidPhrase, NoJetFits, NotAWorkshop
from spoutlines.phrases import read_phrase, written_spout
from spoutlines.sayings import status_of
from spoutlines.wetness import side_of
from spoutlines.workshops import Workshop


def answer_about(word, head, asks, what):
    """The answer to `spout`, `side` or `say` for the spout of this head and these asks."""
    if word == "spout":
        return written_spout(head, asks)
    try:
        return side_of(head, asks, what) if word == "side" else status_of(head, asks, what)
    except NoJetFits:
        return "none"


class Console:
    """Takes lines for its workshop, `shop`."""

    def __init__(self, shop):
        if not isinstance(shop, Workshop):
            raise NotAWorkshop(shop)
        self.shop = shop

    def say(self, line):
        """The answer to a line."""
        phrase = read_phrase(line) if isinstance(line, str) else None
        if phrase is None:
            raise InvalidPhrase(line)
        word, name, what = phrase
        if word == "names":
            return " ".join(self.shop.names) if self.shop.names else "none"
        if word in ("spout", "side", "say"):
            head, asks = self.shop.named(name)
            return answer_about(word, head, asks, what)
        if word == "put":
            self.shop.put(name, what[0], what[1])
        elif word == "drop":
            self.shop.drop(name)
        else:
            self.shop.undo()
        return "done"
