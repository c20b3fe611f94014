"""The valley: ditches by their names, which is told lines and answers each with a text."""

from ditchturn.deeds import check_new_name
from ditchturn.ditch import Ditch
from ditchturn.errors import BadMany, BadName, Full, NoDitch, NoField, NoHours, NoPart, NothingLeft, NoWeight
from ditchturn.errors import Same, Taken, TooMuch
from ditchturn.parts import part_read, part_text
from ditchturn.words import deed_read, values_read

MOST_AT_ONCE = 99

# What follows the ditch's name in those lines that are not just a deed.
LINE_KINDS = {
    "begin": ("name",),
    "hour": (),
    "hours": ("number",),
    "share": ("name",),
    "free": ("name",),
    "lag": ("name",),
    "turns": ("name",),
    "due": (),
    "back": (),
    "again": (),
}


def answer_hour(ditch):
    """An hour: the field whose turn it was."""
    return ditch.hour()


def answer_hours(ditch, many):
    """So many hours, each a deed: the fields whose turns they were."""
    if many < 1 or many > MOST_AT_ONCE:
        raise BadMany("1 to 99 hours are given at once")
    return " ".join([ditch.hour() for hour in range(many)])


def answer_share(ditch, name):
    """The field's share."""
    return part_text(ditch.share(name))


def answer_free(ditch, name):
    """The field's free part."""
    return part_text(ditch.free(name))


def answer_lag(ditch, name):
    """The field's lag."""
    return part_text(ditch.lag(name))


def answer_turns(ditch, name):
    """How many turns the field has had."""
    return str(ditch.turns(name))


def answer_due(ditch):
    """The field whose turn comes next."""
    return ditch.due()


def answer_back(ditch):
    """The last deed taken back: its word."""
    return ditch.back()[0]


def answer_again(ditch):
    """The last deed that was taken back done again: its word."""
    return ditch.again()[0]


ANSWERS = {
    "hour": answer_hour,
    "hours": answer_hours,
    "share": answer_share,
    "free": answer_free,
    "lag": answer_lag,
    "turns": answer_turns,
    "due": answer_due,
    "back": answer_back,
    "again": answer_again,
}


def order_read(words):
    """What the words of a line tell but for the ditch's name, a tuple, or None where it is no line."""
    if len(words) < 2 or "" in words:
        return None
    word, texts = words[0], words[2:]
    if word not in LINE_KINDS:
        return deed_read([word] + texts, part_read)
    values = values_read(texts, LINE_KINDS[word], part_read)
    return None if values is None else (word, *values)


class Valley:
    """A valley, which has no ditches at first."""

    def __init__(self):
        self.channels = {}

    def tell(self, line):
        """The answer to a line."""
        words = line.split(" ")
        order = order_read(words)
        if order is None:
            return "no line"
        try:
            return self.answer(words[1], order)
        except NoDitch:
            return "no noditch"
        except BadName:
            return "no badname"
        except Taken:
            return "no taken"
        except Full:
            return "no full"
        except NoField:
            return "no nofield"
        except Same:
            return "no same"
        except NoPart:
            return "no nopart"
        except TooMuch:
            return "no toomuch"
        except NoHours:
            return "no nohours"
        except NoWeight:
            return "no noweight"
        except NothingLeft:
            return "no nothingleft"
        except BadMany:
            return "no badmany"

    def answer(self, name, order):
        """What is answered to an order for the ditch of that name; the order's refusals."""
        word, *values = order
        if word == "begin":
            self.begin(name, order[1])
            return "ok"
        ditch = self.known(name)
        if word in ANSWERS:
            way = ANSWERS[word]
            return way(ditch, *values)
        ditch.do(order)
        return "ok"

    def begin(self, name, first):
        """Begin a ditch."""
        # The ditch comes first, as a field's name that is none goes ahead of a taken one.
        ditch = Ditch(first)
        check_new_name(name, self.channels)
        self.channels[name] = ditch

    def known(self, name):
        """The valley's own ditch of that name; NoDitch."""
        if name not in self.channels:
            raise NoDitch(f"no ditch has the name {name}")
        return self.channels[name]

    def names(self):
        """The names of the ditches in the order in which they were begun."""
        return list(self.channels)

    def ditch(self, name):
        """A twin of the ditch of that name; NoDitch."""
        return self.known(name).twin()
