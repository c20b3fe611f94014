"""Sheets: a ditch written as rows, its first field and its deeds, and read from them."""

from ditchturn.ditch import Ditch
from ditchturn.errors import BadName, BadSheet, DitchError
from ditchturn.parts import long_part_read, part_text
from ditchturn.words import deed_read


def value_text(value):
    """How a name, a whole number or a part stands on a row."""
    if isinstance(value, str):
        return value
    if isinstance(value, int):
        return str(value)
    return part_text(value)


def deed_row(deed):
    """The row of a deed: its word and what follows in its tuple."""
    values = list(deed)
    if deed[0] == "leave":
        values = [deed[0], deed[1]]
        for heir in deed[2]:
            values.extend(heir)
    return " ".join([value_text(value) for value in values])


def written(ditch):
    """The sheet of a ditch."""
    rows = ["ditch " + ditch.fields()[0]]
    return "\n".join(rows + [deed_row(deed) for deed in ditch.log()])


def begun_by(row):
    """The ditch that a sheet's first row begins; BadSheet."""
    word, blank, first = row.partition(" ")
    if word != "ditch":
        raise BadSheet(0)
    try:
        return Ditch(first)
    except BadName:
        raise BadSheet(0) from None


def read(text):
    """The ditch whose sheet the text is; BadSheet with the first wrong row where it is none."""
    first, *rows = text.split("\n")
    ditch = begun_by(first)
    for at, row in enumerate(rows, start=1):
        deed = deed_read(row.split(" "), long_part_read)
        if deed is None:
            raise BadSheet(at)
        try:
            ditch.do(deed)
        except DitchError:
            raise BadSheet(at) from None
    return ditch
