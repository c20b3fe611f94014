"""What the tests of seasons need: the document's words in Fractions, and drawn seasons."""

import math
from fractions import Fraction

from ditch_help import part


def gains(rows):
    """For each hour the sums of the fields' shares up to and with it."""
    sums = [Fraction(0)] * (len(rows[0]) if rows else 0)
    told = []
    for shares in rows:
        sums = [gain + Fraction(*share) for gain, share in zip(sums, shares)]
        told.append(sums)
    return told


def may_have(rows):
    """For each hour how many turns the fields may have had at most behind it."""
    return [[math.ceil(gain) for gain in sums] for sums in gains(rows)]


def must_have(rows):
    """For each hour how many turns the fields must have had at least behind it."""
    return [[math.floor(gain) for gain in sums] for sums in gains(rows)]


def windows_by_words(rows):
    """The windows, turn by turn as point 17 words them."""
    sums = gains(rows)
    hours = range(len(rows))
    found = []
    for place in range(len(rows[0]) if rows else 0):
        k = 1
        while any(sums[hour][place] > k - 1 for hour in hours):
            first = min(hour for hour in hours if sums[hour][place] > k - 1)
            lasts = [hour for hour in hours if sums[hour][place] >= k]
            found.append((place, k, first, min(lasts) if lasts else None))
            k += 1
    return found


def some_plan(rows, lost):
    """A plan found by trying every way, or None where there is none."""
    may, must = may_have(rows), must_have(rows)

    def behind(hour, had):
        if hour == len(rows):
            return []
        idle = hour in lost or had == may[hour]
        for choice in [None] if idle else range(len(had)):
            now = [turns + (place == choice) for place, turns in enumerate(had)]
            if all(least <= turns <= most for least, turns, most in zip(must[hour], now, may[hour])):
                rest = behind(hour + 1, now)
                if rest is not None:
                    return [choice] + rest
        return None

    return behind(0, [0] * len(rows[0]))


def drawn_shares(draw, many, idle):
    """The shares of one hour; fields that are idle have none."""
    busy = [place for place in range(many) if place not in idle]
    kind = draw.random()
    if kind < 0.15:
        weights = {draw.choice(busy): 1}
    elif kind < 0.4:
        weights = {place: draw.choice([0, 0, 1, 5]) for place in busy}
    else:
        weights = {place: draw.randint(0, draw.choice([3, 12, 10 ** 9])) for place in busy}
    if sum(weights.values()) == 0:
        weights[busy[0]] = 1
    whole = sum(weights.values())
    return [part(Fraction(weights.get(place, 0), whole)) for place in range(many)]


def drawn_rows(draw, hours, many):
    """A season: shares drawn anew in each hour, the same in each, a few rows often again, or whole ones."""
    idle = [place for place in range(1, many) if draw.random() < 0.15]
    kind = draw.choice(["anew", "anew", "same", "few", "whole"])
    if kind == "anew":
        return [drawn_shares(draw, many, idle) for hour in range(hours)]
    if kind == "whole":
        owners = [draw.randrange(many) for hour in range(hours)]
        return [[(1, 1) if place == owner else (0, 1) for place in range(many)] for owner in owners]
    few = [drawn_shares(draw, many, idle) for row in range(1 if kind == "same" else 3)]
    return [list(draw.choice(few)) for hour in range(hours)]


def drawn_lost(draw, hours):
    """Lost hours: none, one, several on end, some, or all."""
    kind = draw.choice(["none", "one", "on end", "some", "few", "all"])
    if hours == 0 or kind == "none":
        return []
    if kind == "one":
        return [draw.randrange(hours)]
    if kind == "on end":
        first = draw.randrange(hours)
        return list(range(first, min(hours, first + draw.randint(1, 5))))
    if kind == "all":
        return list(range(hours))
    chance = 0.3 if kind == "some" else 0.05
    return [hour for hour in range(hours) if draw.random() < chance]
