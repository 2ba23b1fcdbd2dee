"""The checker of claims and their papers (point 41 of the document)."""

from spoutlines.arithmetic import is_below, is_whole
from spoutlines.bounds import keeps
from spoutlines.forms import are_asks, has_form, is_head
from spoutlines.guards import past_guards
from spoutlines.jets import head_of, is_jet
from spoutlines.papers import settles
from spoutlines.sayings import all_do
from spoutlines.streams import is_stream, meetings
from spoutlines.strikes import edge_hit, is_struck
from spoutlines.wetness import with_place


def is_empty(value):
    """Whether a value, whatever it is, is ()."""
    return isinstance(value, tuple) and len(value) == 0


def is_good_jet(head, asks, value):
    """Whether a value, whatever it is, is a jet that is good; these may be more than eight asks."""
    if not is_jet(value) or is_below(head, head_of(value)):
        return False
    return all([keeps(value, ask) for ask in asks])


def asks_with(asks, rest):
    """The asks of a claim, and what further ones the place, or the place and the guards, in its rest ask for."""
    if len(rest) == 0:
        return asks
    return with_place(asks, rest[0]) if len(rest) == 1 else past_guards(asks, rest[0], rest[1])


def is_shown(word, head, asks, rest, paper):
    """Whether the paper is one for the claim of this word, all parts of which have the right form."""
    if word in ("fits", "wet", "let by"):
        return is_good_jet(head, asks_with(asks, rest), paper)
    if word in ("no jet", "dry", "guarded"):
        return settles(head, asks_with(asks, rest), paper)
    if word == "not sure":
        return is_good_jet(head, asks, paper) and not keeps(paper, rest[0])
    if word == "struck":
        return is_good_jet(head, asks, paper) and edge_hit(paper, rest[0]) == rest[1]
    if not is_empty(paper):
        return False
    return all_do(head, asks, rest) if word == "sure" else not is_struck(head, asks, rest[0], rest[1])


def is_count_of_meetings(rest):
    """Whether a tuple, whatever its values are, holds two streams and the number of points at which they meet."""
    if len(rest) != 3 or not is_stream(rest[0]) or not is_stream(rest[1]) or not is_whole(rest[2]):
        return False
    found = meetings(rest[0], rest[1])
    return found is not None and len(found) == rest[2]


def accepts(claim, paper):
    """Whether `claim` is a claim and `paper` is one for it, whatever both are."""
    if not isinstance(claim, tuple) or len(claim) < 3 or not isinstance(claim[0], str):
        return False
    word, rest = claim[0], claim[3:]
    if word == "meetings":
        return is_empty(paper) and is_count_of_meetings(claim[1:])
    if not is_head(claim[1]) or not are_asks(claim[2]) or not has_form(word, rest):
        return False
    return is_shown(word, claim[1], claim[2], rest, paper)
