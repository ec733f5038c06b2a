"""The ways by which keys are put in order, and how many moves each needs."""

from figuresort.counts import beginnings, many_columns, tally
from figuresort.firstfirst import ahead_of_first, from_first
from figuresort.lastfirst import ahead_of_last, from_last
from figuresort.orders import put
from figuresort.runs import ahead_of_runs, by_runs, runs
from figuresort.spelling import spelled


def last_ahead(rows, base):
    """How many moves there will be from the last figure."""
    return ahead_of_last(tally(rows, base))[1]


def first_ahead(rows, base):
    """How many moves there will be from the first figure."""
    return ahead_of_first([beginnings(rows, column) for column in range(many_columns(rows) + 1)])[1]


def runs_ahead(rows, base):
    """How many moves there will be by rising stretches."""
    return ahead_of_runs(runs(rows))[1]


def last_done(rows, base):
    """The pair (order, moves) from the last figure."""
    order, steps = from_last(rows, base)
    return (order, sum([len(behind) for column, behind in steps]))


def first_done(rows, base):
    """The pair (order, moves) from the first figure."""
    order, steps = from_first(rows, base)
    return (order, sum([last - first for first, last, column in steps]))


def runs_done(rows, base):
    """The pair (order, moves) by rising stretches."""
    order, steps = by_runs(rows)
    return (order, sum([last - first for first, middle, last in steps]))


# In the order in which ways are told.
WAYS = ("last", "first", "runs")

AHEAD = {"last": last_ahead, "first": first_ahead, "runs": runs_ahead}

DONE = {"last": last_done, "first": first_done, "runs": runs_done}


def moves_ahead(kind, keys, base):
    """The list of pairs (way, moves): how many each way will need."""
    by, rows = spelled(kind, keys, base)
    told = []
    for way in WAYS:
        ahead = AHEAD[way]
        told.append((way, ahead(rows, by)))
    return told


def cheapest(kind, keys, base):
    """The pair (way, moves) of the least moves, of like ones the first."""
    return min(moves_ahead(kind, keys, base), key=lambda pair: pair[1])


def ordered(way, kind, keys, base):
    """The tuple (keys, order, moves) by that way."""
    by, rows = spelled(kind, keys, base)
    done = DONE[way]
    order, moves = done(rows, by)
    told = put(keys, order)
    if kind == "part":
        told = [tuple(key) for key in told]
    return (told, order, moves)
