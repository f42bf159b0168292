"""The gaps between values, and what they leave of a range; None is no bound."""


def values_behind(rows):
    """The dict, ascending, from each beginning of rows of a LOT to the ascending tuple of the values next behind it."""
    found = {(): []}
    for row in rows:
        for size, value in enumerate(row):
            values = found[row[:size]]
            if values == [] or values[-1] != value:
                values.append(value)
                found[row[:size + 1]] = []
    # As the rows ascend, each beginning has come behind all lesser ones.
    return {prefix: tuple(found[prefix]) for prefix in found}


def gaps_of(values):
    """The gaps (low, high) beside and between ascending values, as far as there is an integer within."""
    couples = list(zip((None,) + values, values + (None,)))
    return [(low, high) for low, high in couples if low is None or high is None or high - low > 1]


def gap_at(values, x):
    """The gap (low, high) of ascending values in which x is, the first one for None; None if x is a value."""
    place = 0 if x is None else many_below(values, x)
    high = values[place] if place < len(values) else None
    if x is not None and x == high:
        return None
    return (values[place - 1] if place > 0 else None), high


def many_below(values, x):
    """How many of ascending values are below x."""
    first, last = 0, len(values)
    while first < last:
        middle = (first + last) // 2
        if values[middle] < x:
            first = middle + 1
        else:
            last = middle
    return first


def is_within(low, value, high):
    """Whether a value is in a gap."""
    return (low is None or low < value) and (high is None or value < high)


def holds_some(low, high, first, last):
    """Whether an integer in a gap is from first to last."""
    return (low is None or last is None or low < last) and (high is None or first is None or first < high)


def gap_place(gap):
    """The place of (atom, low, high) among others: by lows, no bound first, then by atoms."""
    atom, low, high = gap
    return (0, 0, atom) if low is None else (1, low, atom)


def farthest(gaps):
    """Of tuples (atom, low, high) the first one with the greatest high, no bound being the greatest; None of none."""
    found = None
    for gap in gaps:
        if found is None or found[2] is not None and (gap[2] is None or gap[2] > found[2]):
            found = gap
    return found


def runs_left(first, last, gaps):
    """The runs (low, high) of the integers from first to last that are in none of the gaps (low, high), ascending."""
    runs = []
    for low, high in sorted(gaps, key=_run_place):
        if low is not None:
            runs.append((first, low))
        if high is None:
            return _ended(runs, last)
        first = high if first is None else max(first, high)
    runs.append((first, None))
    return _ended(runs, last)


def many_in(runs):
    """How many integers runs have, None if endlessly many."""
    if any([low is None or high is None for low, high in runs]):
        return None
    return sum([high - low + 1 for low, high in runs])


def integers_in(runs):
    """The integers of runs that end."""
    return [value for low, high in runs for value in range(low, high + 1)]


def _run_place(gap):
    return (0, 0) if gap[0] is None else (1, gap[0])


def _ended(runs, last):
    """The runs as far as they go up to last, without those that have no integer."""
    ends = [high if last is None or high is not None and high < last else last for low, high in runs]
    clipped = [(low, end) for (low, high), end in zip(runs, ends)]
    return [(low, end) for low, end in clipped if low is None or end is None or low <= end]
