"""The refusals: each is a class of its own right under DitchError."""


class DitchError(ValueError):
    """Any refusal."""


class BadPart(DitchError):
    """A text that writes no part."""


class BadName(DitchError):
    """A text that is no name."""


class Taken(DitchError):
    """A name that is in use already."""


class Full(DitchError):
    """More fields than a ditch may have."""


class NoField(DitchError):
    """A name that no field of the ditch has."""


class Same(DitchError):
    """A giver who is the taker too."""


class NoPart(DitchError):
    """A part to hand over that isn't above nought."""


class TooMuch(DitchError):
    """More than the giver's free part."""


class NoHours(DitchError):
    """A loan for a count of hours that no loan may have."""


class NoHeirs(DitchError):
    """Leaving to nobody."""


class NoWeight(DitchError):
    """An heir's weight that no heir may have."""


class WrongTurn(DitchError):
    """An hour for a field whose turn isn't due."""


class NothingLeft(DitchError):
    """No deed to take back, or none to do again."""


class BadMany(DitchError):
    """A count of hours that can't be asked for."""


class BadSheet(DitchError):
    """A text that is the sheet of no ditch, with the number of its first wrong row."""

    def __init__(self, row):
        DitchError.__init__(self, f"no sheet of a ditch goes on with row {row}")
        self.row = row


class NoDitch(DitchError):
    """A name that no ditch of the valley has."""
