"""What the tests of sheets and accounts need: a second reading of rows, and long ditches."""

import math
import random
import re

from ditchturn.ditch import Ditch
from ditch_help import Model, drawn_deed

# One of each kind of deed, all done behind one another.
EVERY_DEED = [
    ("settle", "bob"),
    ("sell", "ann", "bob", (1, 2)),
    ("lend", "ann", "bob", (1, 4), 12),
    ("leave", "ann", (("cid", 2), ("dan", 1))),
    ("hour", "bob"),
    ("lose",),
]
EVERY_ROW = [
    "ditch ann", "settle bob", "sell ann bob 1/2", "lend ann bob 1/4 12", "leave ann cid 2 dan 1", "hour bob", "lose",
]
NUMBER = "(0|[1-9][0-9]*)"
PART = "(0|-?[1-9][0-9]*)/([1-9][0-9]*)"
ROW_FORMS = [
    re.compile(form) for form in (
        "(settle) ([a-z]{1,8})", "(hour) ([a-z]{1,8})", "(lose)",
        f"(sell) ([a-z]+) ([a-z]+) {PART}", f"(lend) ([a-z]+) ([a-z]+) {PART} {NUMBER}",
    )
]
LEAVE_FORM = re.compile(f"leave [a-z]+( [a-z]+ {NUMBER})+")


def deed_of_row(row):
    """The deed that a row writes, or None; read by patterns."""
    if LEAVE_FORM.fullmatch(row):
        word, name, *rest = row.split(" ")
        return (word, name, tuple((rest[at], int(rest[at + 1])) for at in range(0, len(rest), 2)))
    for form in ROW_FORMS:
        match = form.fullmatch(row)
        if match:
            return with_part(match.groups())
    return None


def with_part(words):
    """The deed of a row's words, in which a part is still two of them; None for one not in lowest terms."""
    if words[0] not in ("sell", "lend"):
        return tuple(words)
    part = (int(words[3]), int(words[4]))
    if math.gcd(*part) != 1:
        return None
    return (*words[:3], part, *[int(word) for word in words[5:]])


def first_bad_row(text):
    """The number of the first wrong row of a text, or None where it is a sheet; by a second reckoning."""
    first, *rows = text.split("\n")
    if not re.fullmatch("ditch [a-z]{1,8}", first):
        return 0
    model = Model(first.split(" ")[1])
    for at, row in enumerate(rows, start=1):
        deed = deed_of_row(row)
        if deed is None or model.refusal(deed) is not None:
            return at
        model.do(deed)
    return None


def drawn_ditch(seed, deeds):
    """A ditch with just so many drawn deeds in its log."""
    draw = random.Random(seed)
    ditch, model = Ditch("ann"), Model("ann")
    while len(model.deeds) < deeds:
        deed = drawn_deed(draw, model, strange=0)
        if model.refusal(deed) is None:
            ditch.do(deed)
            model.do(deed)
    return ditch


def long_ditch():
    """A ditch with 400 deeds of every kind, and small parts."""
    ditch = Ditch("ann")
    ditch.settle("bob")
    ditch.sell("ann", "bob", (1, 3))
    ditch.leave("ann", [("cid", 3), ("dan", 1)])
    while len(ditch.log()) < 400:
        step = len(ditch.log())
        if step % 10 == 4:
            ditch.lend("cid", "bob", (1, 8), 3)
        elif step % 10 == 8:
            ditch.lose()
        elif step % 20 == 9:
            ditch.sell("bob", "ann", (1, 1000))
        else:
            ditch.hour()
    return ditch
