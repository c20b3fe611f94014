"""Moments of a ditch: what it is between two deeds.

Neither a moment nor a list within it is changed once it stands: a deed makes another
one. So a ditch can go back to a moment, and twins can have it in common.
"""

from ditchturn.errors import NoField
from ditchturn.lags import dealt
from ditchturn.parts import plus

NOUGHT = (0, 1)
WHOLE = (1, 1)


class Moment:
    """A ditch between two deeds, its lists by the places of the fields, but the loans."""

    def __init__(self):
        self.order = []
        self.holdings = []
        self.frees = []
        self.portions = []
        self.arrears = []
        self.counts = []
        self.debts = []
        self.wet = 0
        self.dry = 0


def like(moment):
    """A moment that has all lists in common with this one, to be given others."""
    other = Moment()
    other.order = moment.order
    other.holdings = moment.holdings
    other.frees = moment.frees
    other.portions = moment.portions
    other.arrears = moment.arrears
    other.counts = moment.counts
    other.debts = moment.debts
    other.wet = moment.wet
    other.dry = moment.dry
    return other


def begun(first):
    """A ditch with one field, which owns the whole water."""
    return joined(Moment(), first, WHOLE)


def place_of(moment, name):
    """The place of the field of that name; NoField."""
    if name not in moment.order:
        raise NoField(f"no field has the name {name}")
    return moment.order.index(name)


def opposite(part):
    """As much below nought as the part is above it."""
    return (-part[0], part[1])


def added(row, place, part):
    """Another list, with the part added at the place."""
    other = list(row)
    other[place] = plus(row[place], part)
    return other


def joined(moment, name, part):
    """With a new field, the last one, which owns the part."""
    other = like(moment)
    other.order = moment.order + [name]
    other.holdings = moment.holdings + [part]
    other.frees = moment.frees + [part]
    other.portions = moment.portions + [part]
    other.arrears = moment.arrears + [NOUGHT]
    other.counts = moment.counts + [0]
    return other


def endowed(moment, place, part):
    """With so much more that the field owns and hasn't lent out."""
    other = like(moment)
    other.holdings = added(moment.holdings, place, part)
    other.frees = added(moment.frees, place, part)
    other.portions = added(moment.portions, place, part)
    return other


def entrusted(moment, giver, taker, part):
    """With so much of what the giver owns in the hands of the taker, both given by place."""
    other = like(moment)
    other.frees = added(moment.frees, giver, opposite(part))
    other.portions = added(added(moment.portions, giver, opposite(part)), taker, part)
    return other


def passed(moment):
    """With one hour less to run for each loan; one without any is over."""
    other = like(moment)
    other.debts = [(giver, taker, part, left - 1) for giver, taker, part, left in moment.debts if left > 1]
    for giver, taker, part, left in moment.debts:
        if left == 1:
            other = entrusted(other, place_of(moment, giver), place_of(moment, taker), opposite(part))
    return other


def watered(moment):
    """The field whose turn the next hour is, and the moment behind that hour."""
    place, lags = dealt(moment.arrears, moment.portions)
    other = passed(moment)
    other.arrears = lags
    other.counts = list(moment.counts)
    other.counts[place] += 1
    other.wet += 1
    return (moment.order[place], other)
