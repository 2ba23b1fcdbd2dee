"""Workshops, which keep spouts under names, and wishes that always hold (point 40 of the document)."""

from spoutlines.arithmetic import is_whole
from spoutlines.asks import check_asks
from spoutlines.errors import Broken, InUse, InvalidIndex, InvalidName, InvalidWish, NothingToUndo, UnknownName
from spoutlines.jets import check_head
from spoutlines.wishes import holds, is_name, is_wish


class State:
    """What a workshop keeps at one time: `spouts`, pairs (HEAD, ASKS) by their names, and `wished`, the wishes.

    Neither is ever changed; each change of a workshop makes another state.
    """

    def __init__(self, spouts, wished):
        self.spouts = spouts
        self.wished = wished


class Moment:
    """What a workshop was when the block of a trial began; `around` is the same of that trial's block around it."""

    def __init__(self, shop, around):
        self.state = shop.state
        self.earlier = list(shop.earlier)
        self.around = around


class Trial:
    """What the `with` statement of a trial stands over."""

    def __init__(self, shop):
        self.shop = shop
        self.begun = None

    def __enter__(self):
        self.begun = Moment(self.shop, self.begun)
        return self.shop

    def __exit__(self, kind, value, trace):
        shop = self.shop
        if kind is not None:
            shop.state = self.begun.state
            shop.earlier = self.begun.earlier
        self.begun = self.begun.around


class Workshop:
    """Spouts under names, and wishes about them; `earlier` are the states before, the last one last."""

    def __init__(self):
        self.state = State({}, ())
        self.earlier = []

    def __len__(self):
        return len(self.earlier)

    def __bool__(self):
        return True

    def __contains__(self, x):
        return isinstance(x, str) and x in self.state.spouts

    @property
    def names(self):
        return tuple(sorted(list(self.state.spouts)))

    @property
    def wishes(self):
        return self.state.wished

    def change(self, spouts, wished):
        """Take these from now on, as one change; all that may be wrong about it has been asked before."""
        self.earlier.append(self.state)
        self.state = State(spouts, wished)

    def check_known(self, name):
        if name not in self:
            raise UnknownName(name)

    def put(self, name, head, asks):
        """Keep a spout under the name, in the place of the one that is there."""
        if not is_name(name):
            raise InvalidName(name)
        check_head(head)
        check_asks(asks)
        for index, wish in enumerate(self.state.wished):
            if wish[1] == name and not holds(wish, head, asks):
                raise Broken(index)
        spouts = dict(self.state.spouts)
        spouts[name] = (head, asks)
        self.change(spouts, self.state.wished)

    def drop(self, name):
        """Keep the spout under the name no longer."""
        self.check_known(name)
        for index, wish in enumerate(self.state.wished):
            if wish[1] == name:
                raise InUse(index)
        spouts = dict(self.state.spouts)
        del spouts[name]
        self.change(spouts, self.state.wished)

    def wish(self, wish):
        """Keep a wish that holds."""
        if not is_wish(wish):
            raise InvalidWish(wish)
        head, asks = self.named(wish[1])
        if not holds(wish, head, asks):
            raise Broken(len(self.state.wished))
        self.change(self.state.spouts, self.state.wished + (wish,))

    def lift(self, index):
        """Keep the wish with this index no longer."""
        wished = self.state.wished
        if not is_whole(index) or index < 0 or index >= len(wished):
            raise InvalidIndex(index)
        self.change(self.state.spouts, wished[:index] + wished[index + 1:])

    def named(self, name):
        """The head and the asks of the spout under the name."""
        self.check_known(name)
        return self.state.spouts[name]

    def undo(self):
        """Take back the last change that is not taken back yet."""
        if not self.earlier:
            raise NothingToUndo()
        self.state = self.earlier.pop()

    def trial(self):
        """For a `with` statement: if its block ends with an exception, all is as it was when the block began."""
        return Trial(self)

    def tried(self, action):
        """What the function returns for this workshop, called within a trial."""
        with self.trial() as shop:
            return action(shop)
