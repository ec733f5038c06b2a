"""Rows put in order from the last figure to the first."""

from figuresort.counts import counts, is_parted, many_columns, order_by_figure


def from_last(rows, base):
    """The pair (order, steps): a step for each column in which not all rows have the same figure."""
    order = list(range(len(rows)))
    steps = []
    for column in range(many_columns(rows) - 1, -1, -1):
        row = [rows[place][column] for place in order]
        if is_parted(counts(row, base)):
            order = [order[at] for at in order_by_figure(row, base)]
            steps.append((column, list(order)))
    return (order, steps)


def ahead_of_last(tally):
    """The pair (columns, moves) of the steps to come, from counts alone."""
    columns = [column for column in range(len(tally) - 1, -1, -1) if is_parted(tally[column])]
    return (columns, sum([sum(tally[column]) for column in columns]))
