"""The errors of the package."""


class KeepError(ValueError):
    """The base class of all errors of the package."""


class BadHomes(KeepError):
    """A value is no homes."""


class BadDeeds(KeepError):
    """A value is no tuple of deeds; index tells the first item that is no deed, None the tuple itself."""

    def __init__(self, index):
        super().__init__(f"no tuple of deeds, index {index}")
        self.index = index


class BadRow(KeepError):
    """A value is no row; index tells the first item that cannot stand there, None the tuple itself."""

    def __init__(self, index):
        super().__init__(f"no row of events, index {index}")
        self.index = index


class BadDeed(KeepError):
    """A value is not the number of a deed done."""


class BadHouse(KeepError):
    """A value is no house."""


class BadHouses(KeepError):
    """A value is no ascending tuple of unlike houses."""


class BadCard(KeepError):
    """A value is not a card of a thing."""


class BadLot(KeepError):
    """A value is none of the lots."""


class BadWishes(KeepError):
    """A value is no tuple of wishes."""


class NotNow(KeepError):
    """What is asked for cannot come now, or cannot be told now."""


class NotMade(KeepError):
    """What is asked for does not exist."""


class TooMany(KeepError):
    """An answer has more parts than most."""

    def __init__(self, most):
        super().__init__(f"more than {most}")
        self.most = most


class NotText(KeepError):
    """A value is no string."""


class InvalidText(KeepError):
    """A text is none of those that can be read; line tells the first wrong line, from 1."""

    def __init__(self, line):
        super().__init__(f"line {line} cannot be read")
        self.line = line


class NothingToUndo(KeepError):
    """There is no event to take back."""
