"""The errors of this package: each class beside TwiceError is derived from it alone.

Those that are raised for an argument keep it in the field `value`.
"""


class TwiceError(ValueError):
    """What every error of this package is; made of nothing."""

    def __init__(self):
        ValueError.__init__(self)


class InvalidTable(TwiceError):
    """A table of kinds was needed."""

    def __init__(self, value=None):
        self.value = value


class InvalidKind(TwiceError):
    """A kind was needed."""

    def __init__(self, value=None):
        self.value = value


class InvalidKinds(TwiceError):
    """A Kinds, or a row of kinds, was needed."""

    def __init__(self, value=None):
        self.value = value


class InvalidDeeds(TwiceError):
    """Deeds with their kinds were needed."""

    def __init__(self, value=None):
        self.value = value


class InvalidDeed(TwiceError):
    """A deed was needed."""

    def __init__(self, value=None):
        self.value = value


class InvalidTwice(TwiceError):
    """Kinds that may be done twice were needed."""

    def __init__(self, value=None):
        self.value = value


class InvalidSetting(TwiceError):
    """A setting was needed."""

    def __init__(self, value=None):
        self.value = value


class InvalidLog(TwiceError):
    """A log was needed."""

    def __init__(self, value=None):
        self.value = value


class InvalidLogs(TwiceError):
    """A list of logs was needed."""

    def __init__(self, value=None):
        self.value = value


class InvalidPlace(TwiceError):
    """A place or a point of a log was needed."""

    def __init__(self, value=None):
        self.value = value


class InvalidCount(TwiceError):
    """A count, perhaps within bounds, was needed."""

    def __init__(self, value=None):
        self.value = value


class InvalidRow(TwiceError):
    """A row of stretches was needed."""

    def __init__(self, value=None):
        self.value = value


class InvalidTree(TwiceError):
    """A tree was needed."""

    def __init__(self, value=None):
        self.value = value


class InvalidMap(TwiceError):
    """A dictionary from words to different words was needed."""

    def __init__(self, value=None):
        self.value = value


class InvalidMoves(TwiceError):
    """Moves of a store were needed."""

    def __init__(self, value=None):
        self.value = value


class InvalidStore(TwiceError):
    """A store was needed."""

    def __init__(self, value=None):
        self.value = value


class InvalidState(TwiceError):
    """A state of a store was needed."""

    def __init__(self, value=None):
        self.value = value


class InvalidMarks(TwiceError):
    """Marks were needed."""

    def __init__(self, value=None):
        self.value = value


class InvalidFalls(TwiceError):
    """Falls were needed."""

    def __init__(self, value=None):
        self.value = value


class InvalidDesk(TwiceError):
    """A desk was needed."""

    def __init__(self, value=None):
        self.value = value


class InvalidScript(TwiceError):
    """A script was needed."""

    def __init__(self, value=None):
        self.value = value


class InvalidText(TwiceError):
    """A text that a writer makes was needed."""

    def __init__(self, value=None):
        self.value = value


class InvalidRecord(TwiceError):
    """A record of a desk was needed."""

    def __init__(self, value=None):
        self.value = value


class Unlike(TwiceError):
    """A thing of the same deeds or kinds as an elder one was needed."""

    def __init__(self, value=None):
        self.value = value


class Endless(TwiceError):
    """A setting that is not endless was needed."""

    def __init__(self, value=None):
        self.value = value


class Refused(TwiceError):
    """Something that can be done as it stands was needed."""

    def __init__(self, value=None):
        self.value = value


class NothingToUndo(TwiceError):
    """Nothing is left that can be taken back; made of nothing."""


class NothingToRedo(TwiceError):
    """Nothing is left that can be made again; made of nothing."""
