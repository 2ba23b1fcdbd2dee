"""Claims made at random, and whether they are so, told by the functions of their promises."""

from spoutlines.fits import any_jet
from spoutlines.grounds import struck_edges
from spoutlines.guards import is_guarded
from spoutlines.places import place_of
from spoutlines.sayings import entails
from spoutlines.streams import meetings
from spoutlines.wetness import is_wet
from tests import oracle
from tests.oracle import distance_and_height, number, pair

# Of two that stand in one row one is so, and one alone.
OPPOSITES = [
    ("fits", "no jet"), ("not sure", "sure"), ("wet", "dry"), ("let by", "guarded"), ("struck", "unstruck"),
]
OTHERS = {word: other for row in OPPOSITES for word, other in (row, row[::-1])}


def near(maker, jet):
    """A place, some of them on the jet if there is one."""
    if jet is None or maker.random.random() < 0.4:
        return maker.place()
    return maker.place_on(jet, number(maker.above_zero()))


def made_guards(maker, jet, at):
    far, found = distance_and_height(at)[0], []
    for _ in range(maker.random.randint(1, 3)):
        distance = far * number((maker.random.randint(1, 9), 10))
        height = number(maker.fraction()) if jet is None else oracle.height(jet, distance)
        height += maker.random.choice((0, 0, 1, -1))
        found.append((maker.random.choice(("post", "curtain")), place_of(pair(distance), pair(height))))
    return tuple(found)


def made_ground(maker, jet):
    distance, corners = 0, []
    for _ in range(maker.random.randint(2, 4)):
        distance += number(maker.above_zero())
        on_jet = jet is not None and maker.random.random() < 0.4
        corners.append(maker.place_on(jet, distance) if on_jet else place_of(pair(distance), maker.fraction()))
    return tuple(corners)


def made_parts(maker):
    """For each two opposite words what stands beside them in a claim."""
    head, asks = maker.task()
    jet = any_jet(head, asks)
    ask = maker.ask() if jet is None or maker.random.random() < 0.5 else maker.touched(jet)
    at, ground = near(maker, jet), made_ground(maker, jet)
    return [
        (head, asks), (head, asks, ask), (head, asks, near(maker, jet)), (head, asks, at, made_guards(maker, jet, at)),
        (head, asks, ground, maker.random.randint(0, len(ground) - 2)),
    ]


def is_so(claim):
    """Whether a claim of the right form is so."""
    word, head, asks = claim[:3]
    if word == "meetings":
        found = meetings(head, asks)
        return found is not None and len(found) == claim[3]
    if word in ("fits", "no jet"):
        return (any_jet(head, asks) is not None) is (word == "fits")
    if word in ("sure", "not sure"):
        return entails(head, asks, claim[3:]) is (word == "sure")
    if word in ("wet", "dry"):
        return is_wet(head, asks, claim[3]) is (word == "wet")
    if word in ("guarded", "let by"):
        return is_guarded(head, asks, claim[3], claim[4]) is (word == "guarded")
    return (claim[4] in struck_edges(head, asks, claim[3])) is (word == "struck")


def is_right(claim, paper):
    """Whether the paper shows that the claim, both of the right form, is so; told once more."""
    word, head, asks, rest = claim[0], claim[1], claim[2], claim[3:]
    if word in ("sure", "unstruck", "meetings"):
        return paper == () and is_so(claim)
    if word in ("wet", "dry", "let by", "guarded"):
        for kind, stand in rest[1] if len(rest) > 1 else ():
            asks = asks + (("over" if kind == "post" else "under", stand),)
        asks = asks + (("over", rest[0]), ("under", rest[0]))
    if word in ("no jet", "dry", "guarded"):
        return oracle.settles(head, asks, paper)
    if not oracle.is_good(paper, head, asks):
        return False
    if word == "not sure":
        return not oracle.does(paper, rest[0])
    if word == "struck":
        corners = [distance_and_height(corner) for corner in rest[0]]
        below = [oracle.height(paper, distance) < height for distance, height in corners[:rest[1] + 2]]
        return below[-1] and not any(below[:-1])
    return True
