"""Whole numbers from nought on, told by their figures."""

from figuresort.errors import TooGreat


def many_figures(n, base):
    """The least many for which n is below the base to the power many."""
    many = 0
    rest = n
    while rest > 0:
        rest //= base
        many += 1
    return many


def figures(n, base, many):
    """The tuple of so many figures of n, the highest first."""
    lowest_first = []
    rest = n
    for turn in range(many):
        lowest_first.append(rest % base)
        rest //= base
    if rest > 0:
        # The words leave n out: Python won't write a number of thousands of figures.
        raise TooGreat(f"the number needs more than {many} figures")
    return tuple(lowest_first[::-1])


def number_of(row, base):
    """The number that has these figures, the highest first."""
    number = 0
    for figure in row:
        number = number * base + figure
    return number


def figure_at(n, base, k):
    """The k-th figure of n, counted from the lowest on."""
    rest = n
    ahead = k
    # Beyond all figures there are noughts alone, however far off k lies.
    while ahead > 0 and rest > 0:
        rest //= base
        ahead -= 1
    return rest % base
