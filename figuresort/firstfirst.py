"""Rows put in order from the first figure on, each stretch of rows by itself."""

from figuresort.counts import begins, counts, is_parted, many_columns, order_by_figure


def parts_of(first, often, column):
    """The stretches, at the column, into which one from first on is parted by its counts."""
    return [(first + begin, first + begin + many, column) for begin, many in zip(begins(often), often)]


def from_first(rows, base):
    """The pair (order, steps): a step (first, last, column) for each stretch that is put by a column's figures."""
    order = list(range(len(rows)))
    steps = []
    columns = many_columns(rows)
    # A pile, whose top is the next stretch, and no recursion: that would go as deep as there are columns.
    waiting = [(0, len(rows), 0)]
    while waiting:
        first, last, column = waiting.pop()
        if last - first < 2 or column == columns:
            continue
        stretch = order[first:last]
        row = [rows[place][column] for place in stretch]
        often = counts(row, base)
        if is_parted(often):
            order[first:last] = [stretch[at] for at in order_by_figure(row, base)]
            steps.append((first, last, column))
        # Where all have the same figure the one part with rows is the stretch itself: it goes on as it is.
        waiting.extend(parts_of(first, often, column + 1)[::-1])
    return (order, steps)


def many_goings_on(longer):
    """For each beginning one figure shorter, how many of these beginnings go on from it."""
    many = {}
    for beginning, rows_with_it in longer:
        shorter = tuple(beginning[:-1])
        many[shorter] = many.get(shorter, 0) + 1
    return many


def ahead_of_first(lists):
    """The pair (steps, moves) of the steps to come, from the beginnings of each column alone."""
    steps = 0
    moves = 0
    for column in range(len(lists) - 1):
        goings_on = many_goings_on(lists[column + 1])
        for beginning, many in lists[column]:
            if goings_on.get(tuple(beginning), 0) > 1:
                steps += 1
                moves += many
    return (steps, moves)
