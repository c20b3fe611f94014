"""Bounds: how far fields may be behind and before, and what follows for hours."""

from ditchturn.parts import ceil_of, floor_of, lowest, over, plus, times, total


def unit_sum(first, last):
    """The sum 1/first + .. + 1/last, nought where last is less than first."""
    return total([(1, number) for number in range(first, last + 1)])


def behind(many):
    """How far one of so many fields may be behind."""
    return unit_sum(2, many)


def before(many):
    """How far one of so many fields may be before its gain."""
    return lowest(many - 1, many)


def most(many, k):
    """How far the k fields of so many that are most behind may be behind together."""
    return times((k, 1), unit_sum(k + 1, many))


def wait(many, share):
    """The most hours that a field with at least this share waits, among so many fields."""
    return floor_of(over(plus(behind(many), before(many)), share))


def foe_hours(many):
    """The hours by whose end the foe has brought one of so many fields behind by `behind`."""
    return ceil_of(times((many, 1), behind(many)))
