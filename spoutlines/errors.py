"""The errors of this package.

Each one but JetError stands directly under it, and under no other class of this package, so that
catching one kind of error never catches another one. That is why the classes that keep the same
attribute share no base. The messages leave out what was given: Python refuses to write whole
numbers of very many figures, and an error has to be shown whatever it keeps.
"""


class JetError(ValueError):
    """The base of all errors of this package."""


class InvalidFraction(JetError):
    """Keeps as `given` what is no fraction, or none that may stand there."""

    def __init__(self, given):
        super().__init__("no fraction that may stand here")
        self.given = given


class InvalidNumber(JetError):
    """Keeps as `given` what is no whole number that may stand there."""

    def __init__(self, given):
        super().__init__("no whole number that may stand here")
        self.given = given


class InvalidIndex(JetError):
    """Keeps as `given` what is no index of anything that is there."""

    def __init__(self, given):
        super().__init__("no index of anything here")
        self.given = given


class InvalidSurd(JetError):
    """Keeps as `given` what is no surd."""

    def __init__(self, given):
        super().__init__("no surd")
        self.given = given


class InvalidPoint(JetError):
    """Keeps as `given` what is no point."""

    def __init__(self, given):
        super().__init__("no point")
        self.given = given


class InvalidPlace(JetError):
    """Keeps as `given` what is no place."""

    def __init__(self, given):
        super().__init__("no place")
        self.given = given


class InvalidDistance(JetError):
    """Keeps as `given` what is no distance that may stand there."""

    def __init__(self, given):
        super().__init__("no distance that may stand here")
        self.given = given


class InvalidHead(JetError):
    """Keeps as `given` what is no head."""

    def __init__(self, given):
        super().__init__("no head")
        self.given = given


class InvalidJet(JetError):
    """Keeps as `given` what is no jet."""

    def __init__(self, given):
        super().__init__("no jet")
        self.given = given


class InvalidAsk(JetError):
    """Keeps as `given` what is no ask that may stand there."""

    def __init__(self, given):
        super().__init__("no ask that may stand here")
        self.given = given


class InvalidStream(JetError):
    """Keeps as `given` what is no stream that may stand there."""

    def __init__(self, given):
        super().__init__("no stream that may stand here")
        self.given = given


class InvalidName(JetError):
    """Keeps as `given` what is no name for a spout."""

    def __init__(self, given):
        super().__init__("no name for a spout")
        self.given = given


class InvalidWish(JetError):
    """Keeps as `given` what is no wish."""

    def __init__(self, given):
        super().__init__("no wish")
        self.given = given


class InvalidPhrase(JetError):
    """Keeps as `given` what a console does not understand."""

    def __init__(self, given):
        super().__init__("no phrase of a console")
        self.given = given


class UnknownName(JetError):
    """Keeps as `given` a name under which no spout is kept."""

    def __init__(self, given):
        super().__init__("no spout is kept under this name")
        self.given = given


class NotAWorkshop(JetError):
    """Keeps as `given` what is no workshop."""

    def __init__(self, given):
        super().__init__("no workshop")
        self.given = given


class NotNearer(JetError):
    """Keeps as `given` what is not nearer than the place."""

    def __init__(self, given):
        super().__init__("not nearer than the place")
        self.given = given


class NotFarther(JetError):
    """Keeps as `given` what is not farther than the place."""

    def __init__(self, given):
        super().__init__("not farther than the place")
        self.given = given


class InvalidAsks(JetError):
    """Keeps as `index` that of the first wrong element of what should be asks."""

    def __init__(self, index):
        super().__init__("no asks")
        self.index = index


class InvalidGround(JetError):
    """Keeps as `index` that of the first wrong element of what should be a ground."""

    def __init__(self, index):
        super().__init__("no ground")
        self.index = index


class InvalidGuards(JetError):
    """Keeps as `index` that of the first wrong element of what should be guards."""

    def __init__(self, index):
        super().__init__("no guards")
        self.index = index


class InUse(JetError):
    """Keeps as `index` that of the first wish that names what should be dropped."""

    def __init__(self, index):
        super().__init__("a wish names this")
        self.index = index


class Broken(JetError):
    """Keeps as `index` that of the first wish that would not hold."""

    def __init__(self, index):
        super().__init__("a wish would not hold")
        self.index = index


class NoJetFits(JetError):
    """No jet is good, where what is asked is about good jets."""


class NothingToUndo(JetError):
    """No change is left that could be taken back."""
