"""Lags: by how much each field is behind, and the turn that an hour gives."""

from ditchturn.bounds import before, most
from ditchturn.parts import below, minus, plus, total


def raised(lags, shares):
    """The lags with their shares added."""
    return [plus(lag, share) for lag, share in zip(lags, shares)]


def turn_of(row):
    """The place of the greatest of a list of parts, the first of several that are alike."""
    place = 0
    for at, part in enumerate(row):
        if below(row[place], part):
            place = at
    return place


def dealt(lags, shares):
    """The place whose turn one hour is, and the lags behind that hour."""
    row = raised(lags, shares)
    place = turn_of(row)
    row[place] = minus(row[place], (1, 1))
    return (place, row)


def by_size(lags):
    """The lags in another order, the greatest first."""
    rest = list(lags)
    row = []
    while rest:
        row.append(rest.pop(turn_of(rest)))
    return row


def greatest(lags, k):
    """The sum of the k greatest lags."""
    return total(by_size(lags)[:k])


def keeps(lags):
    """True where lags that sum up to nought keep the bounds, else False."""
    many = len(lags)
    least = minus((0, 1), before(many))
    if any([below(lag, least) for lag in lags]):
        return False
    together = (0, 1)
    for k, lag in enumerate(by_size(lags), start=1):
        together = plus(together, lag)
        if below(most(many, k), together):
            return False
    return True
