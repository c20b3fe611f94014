"""What the tests of the valley need: a valley to begin with, and a second one that reads lines by patterns."""

import math
import re
import unittest

from ditchturn.valley import Valley
from ditch_help import Model, part, redone, told

NO_NAMES = ["Ann", "ANN", "ann1", "ninelettr", "a\nb", "ann\n", "\n", "a-b", "1", "1/2", "~", "{}"]
WORD = "([^ ]+)"
NUMBER = "(0|[1-9][0-9]{0,8})"
PART = "((?:0|-?[1-9][0-9]{0,399})/[1-9][0-9]{0,399})"
LINE_FORMS = {
    word: re.compile(" ".join([word, WORD, *rest])) for word, rest in {
        "begin": [WORD], "settle": [WORD], "sell": [WORD, WORD, PART], "lend": [WORD, WORD, PART, NUMBER],
        "lose": [], "hour": [], "hours": [NUMBER], "share": [WORD], "free": [WORD], "lag": [WORD],
        "turns": [WORD], "due": [], "back": [], "again": [],
    }.items()
}
LEAVE_FORM = re.compile(f"leave {WORD} {WORD}((?: [^ ]+ {NUMBER})+)")
NAME = re.compile("[a-z]{1,8}")


def text_of(number):
    """How a Fraction is written."""
    top, bottom = part(number)
    return f"{top}/{bottom}"


def split_line(line):
    """The first word, the ditch's name and what follows, or None where it is no line."""
    match = LEAVE_FORM.fullmatch(line)
    if match:
        words = match[3].split(" ")[1:]
        heirs = tuple((words[at], int(words[at + 1])) for at in range(0, len(words), 2))
        return ("leave", match[1], match[2], heirs)
    word = re.match("[^ ]*", line)[0]
    match = LINE_FORMS[word].fullmatch(line) if word in LINE_FORMS else None
    if match is None:
        return None
    values = list(match.groups())
    if word in ("sell", "lend"):
        top, bottom = [int(number) for number in values[3].split("/")]
        if math.gcd(top, bottom) != 1:
            return None
        values[3] = (top, bottom)
    if word in ("lend", "hours"):
        values[-1] = int(values[-1])
    return (word, *values)


class SecondValley:
    """A valley of Models: for each ditch all its moments, and which of them is the present one."""

    def __init__(self):
        self.moments = {}
        self.at = {}

    def tell(self, line):
        told = split_line(line)
        if told is None:
            return "no line"
        word, name, *values = told
        if word == "begin":
            return self.begin(name, values[0])
        if name not in self.moments:
            return "no noditch"
        if word in ("settle", "sell", "lend", "leave", "lose"):
            return self.deed(name, (word, *values))
        if word in ("hour", "hours"):
            return self.hours(name, *values)
        if word in ("back", "again"):
            return self.step(name, word)
        return self.asked(self.moments[name][self.at[name]], word, *values)

    def begin(self, name, first):
        if not NAME.fullmatch(name) or not NAME.fullmatch(first):
            return "no badname"
        if name in self.moments:
            return "no taken"
        self.moments[name], self.at[name] = [Model(first)], 0
        return "ok"

    def deed(self, name, deed):
        model = self.moments[name][self.at[name]]
        refusal = model.refusal(deed)
        if refusal is not None:
            return "no " + refusal.lower()
        other = model.copy()
        other.do(deed)
        self.at[name] += 1
        self.moments[name][self.at[name]:] = [other]
        return "ok"

    def hours(self, name, many=1):
        if not 1 <= many <= 99:
            return "no badmany"
        turns = []
        for hour in range(many):
            turns.append(self.moments[name][self.at[name]].due())
            self.deed(name, ("hour", turns[-1]))
        return " ".join(turns)

    def step(self, name, word):
        at = self.at[name] + (-1 if word == "back" else 1)
        if not 0 <= at < len(self.moments[name]):
            return "no nothingleft"
        deed = self.moments[name][max(at, self.at[name])].deeds[-1]
        self.at[name] = at
        return deed[0]

    def asked(self, model, word, name=None):
        if word == "due":
            return model.due()
        if name not in model.names:
            return "no nofield"
        answer = getattr(model, word)(name)
        return str(answer) if word == "turns" else text_of(answer)


def valley_of(*lines):
    """A valley behind these lines, none of which it refuses."""
    valley = Valley()
    for line in lines:
        answer = valley.tell(line)
        if answer.startswith("no "):
            raise AssertionError(f"{line}: {answer}")
    return valley


def all_told(valley):
    """All that a valley tells of its ditches, deeds to do again too."""
    return [(name, told(valley.ditch(name)), redone(valley.ditch(name))) for name in valley.names()]


class ValleyCase(unittest.TestCase):
    def setUp(self):
        self.valley = valley_of("begin north ann", "settle north bob", "sell north ann bob 1/3")

    def check(self, *pairs):
        """Each line gets its answer, a text; one that begins with `no` changes nothing."""
        for line, answer in pairs:
            known = all_told(self.valley)
            self.assertEqual(self.valley.tell(line), answer, repr(line))
            if answer.startswith("no "):
                self.assertEqual(all_told(self.valley), known, repr(line))
