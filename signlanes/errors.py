"""The errors of the package."""


class FoldError(ValueError):
    """What all errors of this package are derived from."""


class InvalidNumber(FoldError):
    """A number is not of the asked kind or out of its bounds."""

    def __init__(self, value=None):
        self.value = value


class InvalidWord(FoldError):
    """A word is no word for the letters, or not one that is asked for."""

    def __init__(self, value=None):
        self.value = value


class InvalidList(FoldError):
    """A list is not of the asked kind."""

    def __init__(self, value=None):
        self.value = value


class InvalidGroup(FoldError):
    """What has to be a group is none, or not of the asked kind."""

    def __init__(self, value=None):
        self.value = value


class InvalidPicture(FoldError):
    """A value is not the picture of a group."""

    def __init__(self, value=None):
        self.value = value


class InvalidSketch(FoldError):
    """A value is no sketch, or one with too many spots."""

    def __init__(self, value=None):
        self.value = value


class InvalidFold(FoldError):
    """A value is no fold of a sketch."""

    def __init__(self, value=None):
        self.value = value


class InvalidPaper(FoldError):
    """A value is no paper over a list of words."""

    def __init__(self, value=None):
        self.value = value


class InvalidMachine(FoldError):
    """What has to be a set of words told by a machine is none."""

    def __init__(self, value=None):
        self.value = value


class InvalidMap(FoldError):
    """What has to be a map of letters is none, or not of the asked kind."""

    def __init__(self, value=None):
        self.value = value


class InvalidMove(FoldError):
    """A value is no move, no cut and no renaming."""

    def __init__(self, value=None):
        self.value = value


class InvalidRow(FoldError):
    """A value is no row over a list of words."""

    def __init__(self, value=None):
        self.value = value


class InvalidLines(FoldError):
    """A text is not of the asked kind."""

    def __init__(self, value=None):
        self.value = value


class InvalidDeed(FoldError):
    """A value is no deed on a list."""

    def __init__(self, value=None):
        self.value = value


class InvalidFlag(FoldError):
    """What has to be a Boolean is none."""

    def __init__(self, value=None):
        self.value = value


class InvalidBook(FoldError):
    """What has to be a book of a list is none."""

    def __init__(self, value=None):
        self.value = value


class Unlike(FoldError):
    """Two things that have to be alike are not."""

    def __init__(self, value=None):
        self.value = value


class TooLong(FoldError):
    """A word that results has too many signs."""

    def __init__(self, value=None):
        self.value = value


class TooMany(FoldError):
    """A thing that results has too many parts."""

    def __init__(self, value=None):
        self.value = value


class NothingToUndo(FoldError):
    """There is no deed that stands."""


class NothingToRedo(FoldError):
    """There is no deed that is undone."""
