"""The refusals, each straight under RestError."""


class RestError(ValueError):
    """Any refusal."""


class TooMany(RestError):
    """More ways are let than may be."""


class HasRing(RestError):
    """A ring of likings, which it bears, stands against ranks."""

    def __init__(self, ring):
        self.ring = ring


class NoLetter(RestError):
    """There is no letter at that place of the road."""


class Needed(RestError):
    """The letter may not be lost: nothing newer takes its place."""


class NoDeed(RestError):
    """What was handed in is no change of this town."""


class Forged(RestError):
    """A paper of the sealed letter wasn't made by its house."""


class NoText(RestError):
    """The text is none of a town; it bears the number of the row."""

    def __init__(self, row):
        self.row = row


class NoRow(RestError):
    """The line is none that the desk knows."""
