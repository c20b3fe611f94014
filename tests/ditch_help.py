"""What several tests of the ditch need: a plain second reckoning, and drawn deeds."""

import random
from fractions import Fraction

from ditchturn.ditch import Ditch

MILLIONTH = Fraction(1, 10 ** 12)


def part(number):
    """The part of a Fraction or a whole number."""
    number = Fraction(number)
    return (number.numerator, number.denominator)


def parts(numbers):
    return [part(number) for number in numbers]


def told(ditch, ahead=6):
    """All that a ditch tells, by the names of its methods."""
    names = ditch.fields()
    answer = {"fields": names}
    for word in ("owned", "free", "share", "lag", "gain", "turns"):
        answer[word] = [getattr(ditch, word)(name) for name in names]
    for word in ("lags", "loans", "log", "given", "lost", "due"):
        answer[word] = getattr(ditch, word)()
    answer["shares_ahead"] = ditch.shares_ahead(ahead)
    answer["coming"] = ditch.coming(ahead)
    return answer


def redone(ditch):
    """The deeds that a ditch can do again, in their order."""
    other = ditch.twin()
    deeds = []
    while True:
        try:
            deeds.append(other.again())
        except ValueError:
            return deeds


def ditch_of(first, *deeds):
    """A ditch behind these deeds; a bare "hour" is whosever turn it is."""
    ditch = Ditch(first)
    for deed in deeds:
        if deed == "hour":
            ditch.hour()
        else:
            ditch.do(deed)
    return ditch


class Model:
    """A ditch in Fractions, which reckons everything anew from owners, loans and hours."""

    def __init__(self, first):
        self.names = [first]
        self.owns = {first: Fraction(1)}
        self.loans = []
        self.hours = []
        self.deeds = []
        self.lost = 0

    def copy(self):
        other = Model(self.names[0])
        other.names = list(self.names)
        other.owns = dict(self.owns)
        other.loans = [list(loan) for loan in self.loans]
        other.hours = list(self.hours)
        other.deeds = list(self.deeds)
        other.lost = self.lost
        return other

    def free(self, name):
        return self.owns[name] - sum(size for giver, taker, size, left in self.loans if giver == name)

    def share(self, name):
        return self.free(name) + sum(size for giver, taker, size, left in self.loans if taker == name)

    def gain(self, name):
        return sum((shares.get(name, 0) for turn, shares in self.hours), Fraction(0))

    def turns(self, name):
        return [turn for turn, shares in self.hours].count(name)

    def lag(self, name):
        return self.gain(name) - self.turns(name)

    def due(self):
        sums = [self.lag(name) + self.share(name) for name in self.names]
        return self.names[sums.index(max(sums))]

    def refusal(self, deed):
        """The name of the refusal that a deed meets, or None."""
        return getattr(self, "refusal_of_" + deed[0])(*deed[1:])

    def refusal_of_settle(self, name):
        if not (1 <= len(name) <= 8 and all("a" <= sign <= "z" for sign in name)):
            return "BadName"
        if name in self.names:
            return "Taken"
        return "Full" if len(self.names) == 24 else None

    def refusal_of_sell(self, giver, taker, size, hours=1):
        if giver not in self.names or taker not in self.names:
            return "NoField"
        if giver == taker:
            return "Same"
        if size[0] <= 0:
            return "NoPart"
        if not 1 <= hours <= 999:
            return "NoHours"
        return "TooMuch" if Fraction(*size) > self.free(giver) else None

    refusal_of_lend = refusal_of_sell

    def refusal_of_leave(self, name, heirs):
        if name not in self.names:
            return "NoField"
        if len(heirs) == 0:
            return "NoHeirs"
        for at, (heir, weight) in enumerate(heirs):
            if self.refusal_of_settle(heir) == "BadName":
                return "BadName"
            if heir in self.names or heir in [other for other, load in heirs[:at]]:
                return "Taken"
            if not 1 <= weight <= 999999:
                return "NoWeight"
        return "Full" if len(self.names) + len(heirs) > 24 else None

    def refusal_of_hour(self, name):
        return None if name == self.due() else "WrongTurn"

    def refusal_of_lose(self):
        return None

    def do(self, deed):
        """Do a deed that is not refused."""
        getattr(self, "do_" + deed[0])(*deed[1:])
        self.deeds.append(deed)

    def do_settle(self, name):
        self.names.append(name)
        self.owns[name] = Fraction(0)

    def do_sell(self, giver, taker, size):
        self.owns[giver] -= Fraction(*size)
        self.owns[taker] += Fraction(*size)

    def do_lend(self, giver, taker, size, hours):
        self.loans.append([giver, taker, Fraction(*size), hours])

    def do_leave(self, name, heirs):
        estate = self.free(name)
        weights = sum(weight for heir, weight in heirs)
        for heir, weight in heirs:
            self.names.append(heir)
            self.owns[heir] = estate * weight / weights
        self.owns[name] -= estate

    def do_hour(self, name):
        self.hours.append((name, {other: self.share(other) for other in self.names}))
        self.run_loans()

    def do_lose(self):
        self.lost += 1
        self.run_loans()

    def run_loans(self):
        for loan in self.loans:
            loan[3] -= 1
        self.loans = [loan for loan in self.loans if loan[3] > 0]

    def told(self, ahead=6):
        """What a ditch like this one tells, as `told` has it."""
        answer = {"fields": list(self.names), "owned": parts(self.owns[name] for name in self.names)}
        for word in ("free", "share", "lag", "gain"):
            answer[word] = parts(getattr(self, word)(name) for name in self.names)
        answer["turns"] = [self.turns(name) for name in self.names]
        answer["lags"] = answer["lag"]
        answer["loans"] = [(giver, taker, part(size), left) for giver, taker, size, left in self.loans]
        answer["log"] = list(self.deeds)
        answer["given"], answer["lost"], answer["due"] = len(self.hours), self.lost, self.due()
        answer["shares_ahead"], answer["coming"] = [], []
        other = self.copy()
        for hour in range(ahead):
            answer["shares_ahead"].append(parts(other.share(name) for name in other.names))
            answer["coming"].append(other.due())
            other.do_hour(other.due())
        return answer


def drawn_name(draw, model, strange):
    """Mostly a field's name, at times another text."""
    if draw.random() < strange:
        return draw.choice(["nobody", "", "Ann", "a b", "ninelettr", "ann1"])
    return draw.choice(model.names)


def new_name(draw, model):
    return "".join(draw.choice("abcdefgh") for sign in range(draw.randint(1, 8)))


def drawn_part(draw, model, giver):
    """Mostly a part that the giver has free, at times just all, a little more, or none."""
    free = model.free(giver) if giver in model.names else Fraction(1, 2)
    kind = draw.random()
    if kind < 0.2:
        return part(free)
    if kind < 0.3:
        return part(free + MILLIONTH)
    if kind < 0.35:
        return draw.choice([(0, 1), (-1, 3)])
    return part(free * Fraction(draw.randint(1, 11), draw.choice([12, 15, 20])))


def drawn_heir(draw, model, strange):
    name = drawn_name(draw, model, 0.5) if draw.random() < strange else new_name(draw, model)
    weight = draw.choice([0, 1000000]) if draw.random() < strange else draw.choice([1, 2, 3, 5, 999999])
    return (name, weight)


def drawn_deed(draw, model, strange=0.1):
    """A deed as its tuple; with `strange` at nought most of them are not refused."""
    word = draw.choice(["settle", "sell", "sell", "lend", "lend", "leave", "lose"] + ["hour"] * 6)
    if word == "settle":
        return (word, drawn_name(draw, model, 0.5) if draw.random() < strange else new_name(draw, model))
    if word == "leave":
        heirs = [drawn_heir(draw, model, strange) for heir in range(draw.choice([0, 1, 1, 2, 3]))]
        return (word, drawn_name(draw, model, strange), tuple(heirs))
    if word == "hour":
        return (word, drawn_name(draw, model, strange) if draw.random() < strange else model.due())
    if word == "lose":
        return (word,)
    giver, taker = drawn_name(draw, model, strange), drawn_name(draw, model, strange)
    deed = (word, giver, taker, drawn_part(draw, model, giver))
    if word == "lend":
        deed += (draw.choice([0, 1000, -1]) if draw.random() < strange else draw.choice([1, 1, 2, 3, 9, 999]),)
    return deed


def drawn_moments(seed, ditches, steps):
    """Ditches behind each of their drawn deeds, with their second reckonings."""
    draw = random.Random(seed)
    for time in range(ditches):
        ditch, model = Ditch("ann"), Model("ann")
        for step in range(steps):
            deed = drawn_deed(draw, model, strange=0)
            if model.refusal(deed) is None:
                ditch.do(deed)
                model.do(deed)
                yield ditch, model
