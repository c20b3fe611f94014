"""The foe: he names shares that bring some field behind, whatever turns are dealt."""

from ditchturn.lags import raised
from ditchturn.parts import minus


def foe_shares(many, turns):
    """The shares that the foe names for the hour that follows these turns."""
    waiting = [place for place in range(many) if place not in turns]
    if not waiting:
        return [(1, many) for place in range(many)]
    return [(1, len(waiting)) if place in waiting else (0, 1) for place in range(many)]


def foe_lags(many, turns):
    """The lags behind the hours of these turns, each with the shares that the foe named for it."""
    lags = [(0, 1) for place in range(many)]
    for hour, place in enumerate(turns):
        lags = raised(lags, foe_shares(many, turns[:hour]))
        lags[place] = minus(lags[place], (1, 1))
    return lags
