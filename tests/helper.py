"""What several test files need."""

BASES = (2, 3, 5, 7, 10, 12, 16, 27, 31, 36, 60, 63, 64)


def spread(many, below, start=1):
    """So many numbers from 0 to below `below`, scattered, the same in each run."""
    told = []
    state = start
    for _ in range(many):
        state = (state * 6364136223846793005 + 1442695040888963407) % 2 ** 64
        told.append((state >> 3) % below)
    return told


def frozen(thing):
    """A thing with its kinds, all through, so that 1 and True, (1,) and [1] differ."""
    if type(thing) in (list, tuple):
        return (type(thing).__name__, tuple(frozen(part) for part in thing))
    return (type(thing).__name__, thing)


def both_kinds(rows):
    """Rows as a list and as a tuple, of lists and of tuples."""
    return [outer([inner(row) for row in rows]) for outer in (list, tuple) for inner in (list, tuple)]
