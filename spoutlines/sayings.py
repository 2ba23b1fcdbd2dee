"""What is sure of all good jets, and what asks say beside one another (points 23 and 24 of the document)."""

from spoutlines.asks import check_ask, check_asks
from spoutlines.errors import NoJetFits
from spoutlines.fits import fits
from spoutlines.jets import check_head
from spoutlines.regions import bounds_with, is_sure, slopes_left


def status_of(head, asks, ask):
    """`sure`, `never` or `open`: whether all good jets do the ask, none, or some."""
    check_head(head)
    check_asks(asks)
    check_ask(ask)
    bounds = bounds_with(head, asks)
    slopes = slopes_left(bounds)
    if slopes is None:
        raise NoJetFits()
    if is_sure(bounds, slopes, ask):
        return "sure"
    return "open" if fits(head, asks + (ask,)) else "never"


def all_do(head, asks, others):
    """Whether all jets that are good for the asks do the others; nothing is checked here."""
    bounds = bounds_with(head, asks)
    slopes = slopes_left(bounds)
    return slopes is None or all([is_sure(bounds, slopes, ask) for ask in others])


def is_needless(head, asks, indexes, index):
    """Whether the ask with this index is needless beside those with these indexes, itself left out."""
    others = tuple([asks[at] for at in indexes if at != index])
    return all_do(head, others, (asks[index],))


def needless_asks(head, asks):
    """The ascending indexes of all asks that are needless beside all others."""
    check_head(head)
    check_asks(asks)
    indexes = list(range(len(asks)))
    return tuple([index for index in indexes if is_needless(head, asks, indexes, index)])


def kept_asks(head, asks):
    """The ascending indexes of the asks that are left if, from the last one on, each needless one is left out."""
    check_head(head)
    check_asks(asks)
    kept = list(range(len(asks)))
    for index in reversed(range(len(asks))):
        if is_needless(head, asks, kept, index):
            kept.remove(index)
    return tuple(kept)


def entails(head, asks, other):
    """Whether each jet that is good for the asks is good for the other ones."""
    check_head(head)
    check_asks(asks)
    check_asks(other)
    return all_do(head, asks, other)


def say_the_same(head, asks, other):
    """Whether the same jets are good for the asks and for the other ones."""
    return entails(head, asks, other) and all_do(head, other, asks)
