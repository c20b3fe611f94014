"""The survey: accounts of ditches, and which of their entries is wrong first."""

from ditchturn.ditch import Ditch
from ditchturn.errors import DitchError


def account(ditch):
    """The first field, and for each deed a pair of the deed and the list of all lags behind it."""
    # A twin goes back through the moments that the ditch has been through already.
    other = ditch.twin()
    entries = []
    for deed in ditch.log():
        lags = other.lags()
        entries.append((other.back(), lags))
    return (ditch.fields()[0], entries[::-1])


def first_wrong(first, entries):
    """The number of the first entry whose deed is refused or whose lags aren't due, or None."""
    ditch = Ditch(first)
    for at, (deed, lags) in enumerate(entries):
        try:
            ditch.do(deed)
        except DitchError:
            return at
        if ditch.lags() != lags:
            return at
    return None
