"""Rows of figures, told by how often each figure comes."""


def counts(row, base):
    """The list of how often each figure comes, from 0 to below the base."""
    often = [0] * base
    for figure in row:
        often[figure] += 1
    return often


def begins(counts):
    """The list of how many lesser ones there are, for each figure."""
    lesser = []
    so_far = 0
    for many in counts:
        lesser.append(so_far)
        so_far += many
    return lesser


def table(row, base):
    """A list for each figure: how often each figure stands in its part of the row as it is."""
    often = counts(row, base)
    return [counts(row[begin:begin + many], base) for begin, many in zip(begins(often), often)]


def many_columns(rows):
    """How many columns rows have, none where there are no rows."""
    if not rows:
        return 0
    return len(rows[0])


def tally(rows, base):
    """The list of counts of each column."""
    return [counts([row[column] for row in rows], base) for column in range(many_columns(rows))]


def beginnings(rows, column):
    """The rising list of pairs (beginning, how many) of the first so many figures of rows."""
    often = {}
    for row in rows:
        beginning = tuple(row[:column])
        often[beginning] = often.get(beginning, 0) + 1
    return sorted(often.items())


def is_parted(often):
    """Whether more than one figure comes, told by its counts."""
    return len([many for many in often if many > 0]) > 1


def order_by_figure(row, base):
    """The order by which a row of figures rises, like ones as they stand, found by counts alone."""
    marks = begins(counts(row, base))
    order = [0] * len(row)
    for place, figure in enumerate(row):
        order[marks[figure]] = place
        marks[figure] += 1
    return order
