"""The errors of the package: each kind of wrong argument has a class of its own."""


class CutError(ValueError):
    """What all errors of the package are derived from."""

    def __init__(self):
        ValueError.__init__(self)


class InvalidText(CutError):
    """A text, perhaps of the ground, was asked for."""

    def __init__(self, value=None):
        self.value = value


class InvalidWord(CutError):
    """A word, perhaps of the ground, was asked for."""

    def __init__(self, value=None):
        self.value = value


class InvalidNumber(CutError):
    """A number that its point tells was asked for."""

    def __init__(self, value=None):
        self.value = value


class InvalidSigns(CutError):
    """The signs of a ground were asked for."""

    def __init__(self, value=None):
        self.value = value


class InvalidGap(CutError):
    """A gap was asked for."""

    def __init__(self, value=None):
        self.value = value


class InvalidGround(CutError):
    """A ground was asked for."""

    def __init__(self, value=None):
        self.value = value


class InvalidWindow(CutError):
    """A window of the ground was asked for."""

    def __init__(self, value=None):
        self.value = value


class InvalidOrder(CutError):
    """An order of the ground, or a list of such, was asked for."""

    def __init__(self, value=None):
        self.value = value


class InvalidRounds(CutError):
    """Rounds of the ground were asked for."""

    def __init__(self, value=None):
        self.value = value


class InvalidSets(CutError):
    """Sets were asked for."""

    def __init__(self, value=None):
        self.value = value


class InvalidPlace(CutError):
    """A place, or a position, that its point tells was asked for."""

    def __init__(self, value=None):
        self.value = value


class InvalidCuts(CutError):
    """A list of places was asked for."""

    def __init__(self, value=None):
        self.value = value


class InvalidPieces(CutError):
    """A list of pieces that its point tells was asked for."""

    def __init__(self, value=None):
        self.value = value


class InvalidTold(CutError):
    """A told word was asked for."""

    def __init__(self, value=None):
        self.value = value


class InvalidRule(CutError):
    """A rule was asked for."""

    def __init__(self, value=None):
        self.value = value


class InvalidRing(CutError):
    """A ring was asked for."""

    def __init__(self, value=None):
        self.value = value


class InvalidView(CutError):
    """A view by the order was asked for."""

    def __init__(self, value=None):
        self.value = value


class InvalidTwin(CutError):
    """A twin by the order was asked for."""

    def __init__(self, value=None):
        self.value = value


class InvalidEdit(CutError):
    """An edit of the text was asked for."""

    def __init__(self, value=None):
        self.value = value


class InvalidName(CutError):
    """A name was asked for."""

    def __init__(self, value=None):
        self.value = value


class InvalidHistory(CutError):
    """A history was asked for."""

    def __init__(self, value=None):
        self.value = value


class InvalidStore(CutError):
    """A store was asked for."""

    def __init__(self, value=None):
        self.value = value


class InvalidParcel(CutError):
    """A parcel for the store, or a list that its point tells, was asked for."""

    def __init__(self, value=None):
        self.value = value


class InvalidDesk(CutError):
    """A desk was asked for."""

    def __init__(self, value=None):
        self.value = value


class InvalidRecord(CutError):
    """A record of commands was asked for."""

    def __init__(self, value=None):
        self.value = value


class InvalidScript(CutError):
    """A script was asked for."""

    def __init__(self, value=None):
        self.value = value


class InvalidPaper(CutError):
    """A text that a writer makes was asked for."""

    def __init__(self, value=None):
        self.value = value


class Refused(CutError):
    """What the point tells cannot be had as asked."""

    def __init__(self, value=None):
        self.value = value


class NothingToUndo(CutError):
    """There is nothing to take back."""


class NothingToRedo(CutError):
    """There is nothing to make again."""
