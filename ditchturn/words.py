"""Words: what the rows of sheets and the lines of a valley tell, read by the kinds of their words."""

from ditchturn.errors import BadPart
from ditchturn.parts import is_number

# As many as a line may have. No number on a sheet has more: no weight and no count of hours does.
MOST_FIGURES = 9

# A leaving is not among them, as any count of heirs may follow it.
DEED_KINDS = {
    "settle": ("name",),
    "sell": ("name", "name", "part"),
    "lend": ("name", "name", "part", "number"),
    "hour": ("name",),
    "lose": (),
}


def short_number(text):
    """The whole number that a word writes by at most nine figures, or None where it writes none."""
    if len(text) > MOST_FIGURES or not is_number(text):
        return None
    return int(text)


def part_or_none(text, reader):
    """The part that a word writes, or None where the reader refuses it."""
    try:
        return reader(text)
    except BadPart:
        return None


def value_read(text, kind, reader):
    """What a word of that kind tells, or None where it isn't written so."""
    if kind == "part":
        return part_or_none(text, reader)
    if kind == "number":
        return short_number(text)
    # Whether a name is one is for the deed to say, as is the refusal where it is none.
    return text


def values_read(texts, kinds, reader):
    """What words tell that are to be of these kinds, a list, or None where they aren't."""
    if len(texts) != len(kinds):
        return None
    values = [value_read(text, kind, reader) for text, kind in zip(texts, kinds)]
    return None if None in values else values


def leaving_read(texts):
    """The leaving that these words tell behind its own, or None where they tell none."""
    if len(texts) < 3 or len(texts) % 2 == 0:
        return None
    weights = [short_number(text) for text in texts[2::2]]
    if None in weights:
        return None
    return ("leave", texts[0], tuple(zip(texts[1::2], weights)))


def deed_read(words, reader):
    """The deed that the words tell, as its tuple, or None where they tell none.

    The reader is what reads parts: they may be longer on sheets than in lines.
    """
    word, *texts = words
    if word == "leave":
        return leaving_read(texts)
    if word not in DEED_KINDS:
        return None
    values = values_read(texts, DEED_KINDS[word], reader)
    return None if values is None else (word, *values)
