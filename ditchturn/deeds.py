"""Deeds: what each makes of a moment of a ditch, and its refusals in their order."""

from ditchturn.errors import BadName, Full, NoHeirs, NoHours, NoPart, NoWeight, Same, Taken, TooMuch, WrongTurn
from ditchturn.moments import NOUGHT, endowed, entrusted, joined, opposite, passed, place_of, watered
from ditchturn.names import is_name
from ditchturn.parts import below, lowest, times

MOST_FIELDS = 24
MOST_HOURS = 999
MOST_WEIGHT = 999999


def check_new_name(name, used):
    """Refuse a name for a new field that is none or that is in use."""
    if not is_name(name):
        raise BadName("a name has 1 to 8 letters a to z")
    if name in used:
        raise Taken(f"the name {name} is in use")


def check_room(moment, many):
    """Refuse so many new fields where they would be too many."""
    if len(moment.order) + many > MOST_FIELDS:
        raise Full("a ditch has at most 24 fields")


def check_trade(moment, giver, taker, part):
    """The two places of those who trade a part; the refusals that sales and loans begin with."""
    places = (place_of(moment, giver), place_of(moment, taker))
    if giver == taker:
        raise Same(f"{giver} is both giver and taker")
    if not below(NOUGHT, part):
        raise NoPart("the part isn't above nought")
    return places


def check_free(moment, place, part):
    """Refuse a part that is more than the field has free."""
    if below(moment.frees[place], part):
        raise TooMuch("the part is more than the giver has free")


def settled(moment, name):
    """Behind a settling."""
    check_new_name(name, moment.order)
    check_room(moment, 1)
    return joined(moment, name, NOUGHT)


def sold(moment, giver, taker, part):
    """Behind a sale."""
    source, goal = check_trade(moment, giver, taker, part)
    check_free(moment, source, part)
    return endowed(endowed(moment, source, opposite(part)), goal, part)


def lent(moment, giver, taker, part, hours):
    """Behind a lending."""
    source, goal = check_trade(moment, giver, taker, part)
    if hours < 1 or hours > MOST_HOURS:
        raise NoHours("a loan runs for 1 to 999 hours")
    check_free(moment, source, part)
    other = entrusted(moment, source, goal, part)
    other.debts = moment.debts + [(giver, taker, part, hours)]
    return other


def check_heirs(moment, heirs):
    """Refuse heirs to whom nothing can be left."""
    if not heirs:
        raise NoHeirs("there is no heir")
    used = list(moment.order)
    for name, weight in heirs:
        check_new_name(name, used)
        if weight < 1 or weight > MOST_WEIGHT:
            raise NoWeight("a weight is from 1 to 999999")
        used.append(name)
    check_room(moment, len(heirs))


def left(moment, name, heirs):
    """Behind a leaving."""
    place = place_of(moment, name)
    check_heirs(moment, heirs)
    estate = moment.frees[place]
    weights = sum([weight for heir, weight in heirs])
    other = endowed(moment, place, opposite(estate))
    for heir, weight in heirs:
        other = joined(other, heir, times(estate, lowest(weight, weights)))
    return other


def given_to(moment, name):
    """Behind an hour of water that is known to be that field's."""
    turn, other = watered(moment)
    if turn != name:
        raise WrongTurn(f"the turn is that of {turn}")
    return other


def dried(moment):
    """Behind an hour without water."""
    other = passed(moment)
    other.dry += 1
    return other


WAYS = {
    "settle": settled,
    "sell": sold,
    "lend": lent,
    "leave": left,
    "hour": given_to,
    "lose": dried,
}


def behind_deed(moment, deed):
    """The moment behind a deed, given as its tuple."""
    word, *rest = deed
    way = WAYS[word]
    return way(moment, *rest)
