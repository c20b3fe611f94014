"""Seasons: the windows of the fields' turns, and plans around hours that are known to be lost."""

from ditchturn.parts import ceil_of, floor_of, plus


def gains(rows, place):
    """The sums of a field's shares up to and with each hour."""
    gain = (0, 1)
    sums = []
    for shares in rows:
        gain = plus(gain, shares[place])
        sums.append(gain)
    return sums


def first_hour(counts, k):
    """The first hour whose count is at least k, or None where there is none such."""
    for hour, count in enumerate(counts):
        if count >= k:
            return hour
    return None


def field_windows(rows, place):
    """The windows of one field's turns in a season that has hours."""
    sums = gains(rows, place)
    may = [ceil_of(gain) for gain in sums]
    must = [floor_of(gain) for gain in sums]
    return [(place, k, first_hour(may, k), first_hour(must, k)) for k in range(1, may[-1] + 1)]


def windows(rows):
    """The windows of all turns, tuples (place, k, first, last), by place and then by k."""
    found = []
    if rows:
        for place in range(len(rows[0])):
            found.extend(field_windows(rows, place))
    return found


def open_ahead(lost, many):
    """For each of so many hours, and behind the last, how many hours ahead of it aren't lost."""
    counts = [0]
    for hour in range(many):
        counts.append(counts[-1] + (0 if hour in lost else 1))
    return counts


def crowded(spans, lost, many):
    """The first and last hour of a stretch with more whole windows than open hours, or None."""
    closing = sorted([(last, first) for place, k, first, last in spans if last is not None])
    ahead = open_ahead(lost, many)
    for start in range(many):
        within = 0
        for last, first in closing:
            if first >= start:
                within += 1
                if within > ahead[last + 1] - ahead[start]:
                    return (start, last)
    return None


def plan_of(spans, lost, many):
    """The place whose turn each hour is, or None, where no stretch is crowded."""
    waiting = list(spans)
    plan = []
    for hour in range(many):
        ready = [span for span in waiting if span[2] <= hour and hour not in lost]
        if not ready:
            plan.append(None)
            continue
        # The window that ends first goes first, one without an end behind all others: so every
        # turn gets its hour where no stretch is crowded, and no hour is idle while one may be had.
        span = min(ready, key=lambda each: many if each[3] is None else each[3])
        waiting.remove(span)
        plan.append(span[0])
    return plan


def planned(rows, lost):
    """A plan around the lost hours, ("plan", list), or ("stretch", first, last) where none is."""
    spans = windows(rows)
    stretch = crowded(spans, lost, len(rows))
    if stretch is not None:
        return ("stretch", stretch[0], stretch[1])
    return ("plan", plan_of(spans, lost, len(rows)))
