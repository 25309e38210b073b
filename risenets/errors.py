"""All errors of the package."""


class RiseError(ValueError):
    """What is derived from it speaks of a value of a wrong form."""


class InvalidRise(RiseError):
    """No rise."""


class InvalidNet(RiseError):
    """No net."""


class InvalidCurrents(RiseError):
    """Not an integer for each wire."""


class InvalidHeights(RiseError):
    """Not an integer for each knot."""


class InvalidState(RiseError):
    """No state of the net."""


class InvalidKinds(RiseError):
    """Not a kind for each wire."""


class InvalidBox(RiseError):
    """No box."""


class InvalidFeed(RiseError):
    """No feeds of the net."""


class InvalidPlane(RiseError):
    """No turns of the net."""


class InvalidTanks(RiseError):
    """No tanks."""


class InvalidReadings(RiseError):
    """No readings."""


class InvalidText(RiseError):
    """No text of the form that is asked for."""


class InvalidOperation(RiseError):
    """What cannot be done with these arguments."""


class ParseError(RiseError):
    """A text that cannot be read on from a spot."""

    def __init__(self, spot):
        self.spot = spot


class InvalidNumber(IndexError):
    """A number that is none, or out of its limits."""

    def __init__(self, given):
        self.given = given


class UnknownName(KeyError):
    """A name that stands for nothing."""

    def __init__(self, wanted):
        self.wanted = wanted


class TooMany(OverflowError):
    """More than a limit allows."""

    def __init__(self, limit):
        self.limit = limit


class NothingToUndo(LookupError):
    """No place to go to, back or on."""

    def __init__(self, done):
        self.done = done


class Refused(ArithmeticError):
    """What right arguments do not allow, with the reason as a tuple."""

    def __init__(self, reason):
        self.reason = reason
