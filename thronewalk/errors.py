"""The refusals, one class for each kind."""


class ThroneError(ValueError):
    """Any refusal of this package."""


class NoHouse(ThroneError):
    """It is no house."""


class NoBook(ThroneError):
    """It is no book of the house."""


class NoRule(ThroneError):
    """It is no rule of the house."""


class NoLine(ThroneError):
    """No line ends in that folk."""


class NoPlace(ThroneError):
    """That one has no place in the order."""


class NoScroll(ThroneError):
    """It is no scroll of the house."""


class Unlike(ThroneError):
    """Two entries have one name and unlike news."""


class TooMany(ThroneError):
    """There would be more than may be."""


class NoEntry(ThroneError):
    """There is no such entry."""


class NoText(ThroneError):
    """It is no such text."""
