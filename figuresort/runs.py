"""Rows put in order by the rising stretches that are there, merged two by two."""


def runs(rows):
    """The list of the lengths of the rising stretches."""
    lengths = []
    for place, row in enumerate(rows):
        # A row may be handed in as a list, and Python puts no list beside a tuple.
        if place > 0 and tuple(rows[place - 1]) <= tuple(row):
            lengths[-1] += 1
        else:
            lengths.append(1)
    return lengths


def merged(one, other):
    """The rising list of both as pairs (0 or 1, place), of like ones those of one first."""
    both = []
    at, beside = 0, 0
    while at < len(one) or beside < len(other):
        if beside == len(other) or at < len(one) and tuple(one[at]) <= tuple(other[beside]):
            both.append((0, at))
            at += 1
        else:
            both.append((1, beside))
            beside += 1
    return both


def merged_places(rows, one, other):
    """Two lists of places, the rows at each of them rising, as one such list, of like rows those of one first."""
    pairs = merged([rows[place] for place in one], [rows[place] for place in other])
    places = (one, other)
    return [places[which][at] for which, at in pairs]


def merging_round(lengths):
    """The pair (steps, lengths behind them) of merging stretches two by two once."""
    steps = []
    behind = []
    first = 0
    for at in range(0, len(lengths), 2):
        both = lengths[at:at + 2]
        last = first + sum(both)
        if len(both) == 2:
            steps.append((first, first + both[0], last))
        behind.append(last - first)
        first = last
    return (steps, behind)


def ahead_of_runs(lengths):
    """The pair (steps, moves) of the mergings to come, from the lengths of the stretches alone."""
    steps = []
    stretches = lengths
    while len(stretches) > 1:
        done, stretches = merging_round(stretches)
        steps.extend(done)
    return (steps, sum([last - first for first, middle, last in steps]))


def by_runs(rows):
    """The pair (order, steps): a step (first, middle, last) for each merging of two stretches."""
    order = list(range(len(rows)))
    steps = ahead_of_runs(runs(rows))[0]
    for first, middle, last in steps:
        order[first:last] = merged_places(rows, order[first:middle], order[middle:last])
    return (order, steps)
