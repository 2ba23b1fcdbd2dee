"""Guards of places (points 34 and 35 of the document)."""

from itertools import combinations

from spoutlines.arithmetic import ONE, is_below, minus, quotient, times
from spoutlines.asks import check_asks
from spoutlines.errors import InvalidGuards, NotNearer
from spoutlines.fits import fits
from spoutlines.jets import check_head
from spoutlines.numbers import surd_plus, surd_times
from spoutlines.places import check_distance, check_place, distance_of, height_of, is_place
from spoutlines.regions import bounds_with, slopes_left
from spoutlines.wetness import with_place

MOST_GUARDS = 8
# What a jet does that passes a guard.
PASSED_BY = {"post": "over", "curtain": "under"}


def is_guard(value):
    if not isinstance(value, tuple) or len(value) != 2 or not isinstance(value[0], str):
        return False
    return value[0] in PASSED_BY and is_place(value[1])


def wrong_guard(value):
    """The index of the first wrong element of a tuple that should be guards; None if there is none."""
    for index, guard in enumerate(value):
        if index == MOST_GUARDS or not is_guard(guard):
            return index
    return None


def are_guards(value):
    return isinstance(value, tuple) and len(value) > 0 and wrong_guard(value) is None


def check_guards(value):
    if not are_guards(value):
        raise InvalidGuards(wrong_guard(value) if isinstance(value, tuple) else None)


def place_not_nearer(guards, place):
    """The place of the first guard that is not nearer than the place; None if all are."""
    for _, stand in guards:
        if not is_below(distance_of(stand), distance_of(place)):
            return stand
    return None


def check_guards_nearer(guards, place):
    stand = place_not_nearer(guards, place)
    if stand is not None:
        raise NotNearer(stand)


def passing(guards):
    """What a jet does that passes all these guards, an ask for each."""
    return tuple([(PASSED_BY[word], stand) for word, stand in guards])


def past_guards(asks, place, guards):
    """The asks, to pass all these guards, and to come through the place."""
    return with_place(asks + passing(guards), place)


def is_guarded(head, asks, place, guards):
    """Whether no good jet that passes all the guards comes through the place."""
    check_head(head)
    check_asks(asks)
    check_place(place)
    check_guards(guards)
    check_guards_nearer(guards, place)
    return not fits(head, past_guards(asks, place, guards))


def fewest_guards(head, asks, place, guards):
    """The indexes of a least number of the guards that alone guard the place; None if all of them do not."""
    if not is_guarded(head, asks, place, guards):
        return None
    if not fits(head, with_place(asks, place)):
        return ()
    # Each guard lets by the slopes from a fraction on, or up to one, so that two are always enough.
    for size in range(1, 3):
        for indexes in combinations(range(len(guards)), size):
            if not fits(head, past_guards(asks, place, tuple([guards[index] for index in indexes]))):
                return indexes
    return None


def slopes_through(head, asks, place, distance):
    """The least and the greatest slope of the good jets through the place, None if it is dry; checks all arguments."""
    check_head(head)
    check_asks(asks)
    check_place(place)
    check_distance(distance)
    if not is_below(distance, distance_of(place)):
        raise NotNearer(distance)
    return slopes_left(bounds_with(head, with_place(asks, place)))


def height_through(slope, place, distance):
    """The height at the nearer distance, a surd, of the jet through the place with this slope, a surd."""
    share = quotient(distance, distance_of(place))
    risen = surd_times(slope, times(distance, minus(ONE, share)))
    return surd_plus(risen, times(height_of(place), times(share, share)))


def least_post(head, asks, place, distance):
    """A post at the distance alone guards the place if it is higher than this surd; None if the place is dry."""
    slopes = slopes_through(head, asks, place, distance)
    return None if slopes is None else height_through(slopes[1], place, distance)


def greatest_curtain(head, asks, place, distance):
    """A curtain at the distance alone guards the place if it is lower than this surd; None if the place is dry."""
    slopes = slopes_through(head, asks, place, distance)
    return None if slopes is None else height_through(slopes[0], place, distance)
