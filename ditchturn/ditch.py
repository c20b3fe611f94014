"""The ditch: fields, the deeds that change their shares, and the hours of water."""

from ditchturn.deeds import behind_deed
from ditchturn.errors import BadMany, BadName, NothingLeft
from ditchturn.lags import raised, turn_of
from ditchturn.moments import begun, passed, place_of, watered
from ditchturn.names import LETTERS, is_name
from ditchturn.parts import plus

MOST_AHEAD = 100


def check_many(many):
    """Refuse a count of hours that is not told ahead."""
    if many < 0 or many > MOST_AHEAD:
        raise BadMany("0 to 100 hours are told ahead")


class Ditch:
    """A ditch, which begins with one field that owns the whole water."""

    def __init__(self, first):
        if not is_name(first):
            raise BadName("a name has 1 to 8 letters a to z")
        self.now = begun(first)
        # Each deed stands beside the moment to which it is a step: in the past the one
        # ahead of the deed, among the undone the one behind it, the next one last.
        self.past = []
        self.undone = []

    def enter(self, deed, moment):
        """Go on to the moment behind a new deed."""
        self.past.append((deed, self.now))
        self.now = moment
        self.undone = []

    def do(self, deed):
        """Do a deed given as its tuple, and tell what the deed tells."""
        self.enter(deed, behind_deed(self.now, deed))
        return deed[1] if deed[0] == "hour" else None

    def settle(self, name):
        """Settle a new field, the last one."""
        self.do(("settle", name))

    def sell(self, giver, taker, part):
        """Sell a part of what the giver owns to the taker."""
        self.do(("sell", giver, taker, part))

    def lend(self, giver, taker, part, hours):
        """Lend a part of what the giver owns to the taker for so many hours."""
        self.do(("lend", giver, taker, part, hours))

    def leave(self, name, heirs):
        """Leave the field's free part to new fields, a list of pairs of a name and a weight."""
        self.do(("leave", name, tuple(heirs)))

    def hour(self):
        """Give an hour of water, and tell the field whose turn it was."""
        turn, moment = watered(self.now)
        self.enter(("hour", turn), moment)
        return turn

    def lose(self):
        """Pass an hour without water."""
        self.do(("lose",))

    def back(self):
        """Take the last deed back, and tell it."""
        if not self.past:
            raise NothingLeft("there is no deed to take back")
        deed, moment = self.past.pop()
        self.undone.append((deed, self.now))
        self.now = moment
        return deed

    def again(self):
        """Do the deed again that was taken back last, and tell it."""
        if not self.undone:
            raise NothingLeft("there is no deed to do again")
        deed, moment = self.undone.pop()
        self.past.append((deed, self.now))
        self.now = moment
        return deed

    def twin(self):
        """A ditch that is like this one in all things and goes its own way."""
        other = Ditch(self.now.order[0])
        other.now = self.now
        other.past = list(self.past)
        other.undone = list(self.undone)
        return other

    def fields(self):
        """The names of the fields in their order."""
        return list(self.now.order)

    def owned(self, name):
        """What the field owns."""
        return self.now.holdings[place_of(self.now, name)]

    def free(self, name):
        """What the field owns and hasn't lent out."""
        return self.now.frees[place_of(self.now, name)]

    def share(self, name):
        """The field's free part and all that is lent to it."""
        return self.now.portions[place_of(self.now, name)]

    def lag(self, name):
        """By how much the field is behind."""
        return self.now.arrears[place_of(self.now, name)]

    def gain(self, name):
        """The sum of the field's shares in all hours given so far."""
        return plus(self.lag(name), (self.turns(name), 1))

    def turns(self, name):
        """How many turns the field has had."""
        return self.now.counts[place_of(self.now, name)]

    def lags(self):
        """The lags of all fields in their order."""
        return list(self.now.arrears)

    def loans(self):
        """The loans in the order of lending: tuples (giver, taker, part, hours left)."""
        return list(self.now.debts)

    def log(self):
        """The deeds that were done, as tuples."""
        return [deed for deed, moment in self.past]

    def given(self):
        """How many hours of water were given."""
        return self.now.wet

    def lost(self):
        """How many hours were lost."""
        return self.now.dry

    def due(self):
        """The field whose turn comes next."""
        return self.now.order[turn_of(raised(self.now.arrears, self.now.portions))]

    def shares_ahead(self, many):
        """The shares of all fields in each of the next hours, if no other deed is done."""
        check_many(many)
        rows = []
        moment = self.now
        for hour in range(many):
            rows.append(list(moment.portions))
            moment = passed(moment)
        return rows

    def coming(self, many):
        """The fields whose turns the next hours will be, if no other deed is done."""
        check_many(many)
        names = []
        moment = self.now
        for hour in range(many):
            turn, moment = watered(moment)
            names.append(turn)
        return names


def worst(many):
    """A ditch of so many fields with one that is behind by just `behind` of so many."""
    ditch = Ditch(LETTERS[0])
    for name in LETTERS[1:many]:
        ditch.settle(name)
        ditch.sell(LETTERS[0], name, (1, many))
    # As the foe does it: whoever has had a turn hands all that it owns to those who
    # still wait, to each the same, so that these get behind together.
    waiting = ditch.fields()
    while len(waiting) > 1:
        turn = ditch.hour()
        waiting.remove(turn)
        for name in waiting:
            ditch.sell(turn, name, (1, len(waiting) * (len(waiting) + 1)))
    return ditch
