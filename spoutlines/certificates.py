"""Claims with papers that the checker accepts (point 41 of the document)."""

from spoutlines.asks import check_ask, check_asks
from spoutlines.errors import InvalidStream
from spoutlines.fits import good_jet
from spoutlines.grounds import check_edge_index, check_ground
from spoutlines.guards import check_guards, check_guards_nearer, past_guards
from spoutlines.jets import check_head
from spoutlines.misses import jet_missing
from spoutlines.papers import paper_against
from spoutlines.places import check_place
from spoutlines.streams import meetings
from spoutlines.strikes import jet_upon
from spoutlines.wetness import with_place


def with_jet_or_weights(head, asks, one, other):
    """The first claim with a jet that is good for these asks, or, if there is none, the other one with weights."""
    jet = good_jet(head, asks)
    return (other, paper_against(head, asks)) if jet is None else (one, jet)


def with_jet_or_nothing(jet, one, other):
    """The first claim with the jet, or, if that is None, the other one with an empty paper."""
    return (other, ()) if jet is None else (one, jet)


def certify_jets(head, asks):
    """That some jet is good, or that none is."""
    check_head(head)
    check_asks(asks)
    return with_jet_or_weights(head, asks, ("fits", head, asks), ("no jet", head, asks))


def certify_ask(head, asks, ask):
    """That all good jets do the ask, or that some does not."""
    check_head(head)
    check_asks(asks)
    check_ask(ask)
    return with_jet_or_nothing(jet_missing(head, asks, ask), ("not sure", head, asks, ask), ("sure", head, asks, ask))


def certify_place(head, asks, place):
    """That the place is wet, or that it is dry."""
    check_head(head)
    check_asks(asks)
    check_place(place)
    through = with_place(asks, place)
    return with_jet_or_weights(head, through, ("wet", head, asks, place), ("dry", head, asks, place))


def certify_guards(head, asks, place, guards):
    """That the guards guard the place, or that they do not."""
    check_head(head)
    check_asks(asks)
    check_place(place)
    check_guards(guards)
    check_guards_nearer(guards, place)
    parts = (head, asks, place, guards)
    return with_jet_or_weights(head, past_guards(asks, place, guards), ("let by",) + parts, ("guarded",) + parts)


def certify_edge(head, asks, ground, index):
    """That some good jet strikes this edge, or that none does."""
    check_head(head)
    check_asks(asks)
    check_ground(ground)
    check_edge_index(ground, index)
    parts = (head, asks, ground, index)
    return with_jet_or_nothing(jet_upon(head, asks, ground, index), ("struck",) + parts, ("unstruck",) + parts)


def certify_meetings(stream, other):
    """At how many points both streams meet."""
    found = meetings(stream, other)
    if found is None:
        raise InvalidStream(other)
    return (("meetings", stream, other, len(found)), ())
