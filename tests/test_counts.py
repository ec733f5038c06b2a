"""Point 5, and points 1 and 2 of counts.py."""

import unittest
from collections import Counter

from figuresort.counts import begins, beginnings, counts, table, tally
from helper import (
    BASES, check_answer_is_own, check_list_as_tuple, columns_of, frozen, row_samples, shy_rows, spread,
)


def figure_rows():
    """Pairs (row of figures, base)."""
    told = []
    for base in BASES:
        high = base - 1
        told += [
            ([], base), ([0], base), ([high], base), ([high] * 200, base), ([0] * 200, base), ([high, 0], base),
            ([0, high], base), ([1, 0, 1, 1, 0], base), (spread(200, base), base), (spread(200, min(base, 3), 4), base),
            (list(range(base)), base), (list(range(base))[::-1], base), (sorted(spread(200, base, 6)), base),
            (sorted(spread(200, base, 8), reverse=True), base),
        ]
    return told


SAMPLES = figure_rows()
ROWS = row_samples()


class Counts(unittest.TestCase):
    def test_plain_ones(self):
        self.assertEqual(frozen(counts([2, 0, 2, 1, 2], 4)), frozen([1, 1, 3, 0]))
        self.assertEqual(frozen(counts([1], 2)), frozen([0, 1]))

    def test_no_figures(self):
        for base in range(2, 65):
            self.assertEqual(frozen(counts([], base)), frozen([0] * base))
            self.assertEqual(frozen(counts((), base)), frozen([0] * base))

    def test_as_told(self):
        for row, base in SAMPLES:
            self.assertEqual(frozen(counts(row, base)), frozen([row.count(figure) for figure in range(base)]))

    def test_list_as_tuple_and_own(self):
        for row, base in SAMPLES:
            check_list_as_tuple(self, counts, row, base)
            check_answer_is_own(self, counts, row, base)


class Begins(unittest.TestCase):
    def test_plain_ones(self):
        self.assertEqual(frozen(begins([1, 1, 3, 0])), frozen([0, 1, 2, 5]))
        self.assertEqual(frozen(begins([0, 0, 4])), frozen([0, 0, 0]))
        self.assertEqual(frozen(begins([4, 0, 0, 2])), frozen([0, 4, 4, 4]))
        self.assertEqual(frozen(begins([0] * 64)), frozen([0] * 64))

    def test_of_none(self):
        self.assertEqual(frozen(begins([])), frozen([]))
        self.assertEqual(frozen(begins(())), frozen([]))

    def test_as_told(self):
        for row, base in SAMPLES:
            lesser = [len([other for other in row if other < figure]) for figure in range(base)]
            self.assertEqual(frozen(begins(counts(row, base))), frozen(lesser))

    def test_where_parts_begin_and_end(self):
        for row, base in SAMPLES:
            often = counts(row, base)
            rising = sorted(row)
            for figure, begin in enumerate(begins(often)):
                self.assertEqual(rising[begin:begin + often[figure]], [figure] * row.count(figure))

    def test_list_as_tuple_and_own(self):
        for row, base in SAMPLES:
            check_list_as_tuple(self, begins, counts(row, base))
            check_answer_is_own(self, begins, counts(row, base))


def plain_table(row, base):
    """By each place of the row: the part it lies in, and the figure that stands there."""
    told = [[0] * base for _ in range(base)]
    for part, figure in zip(sorted(row), row):
        told[part][figure] += 1
    return told


class Table(unittest.TestCase):
    def test_plain_ones(self):
        self.assertEqual(frozen(table([2, 0, 2, 1, 2], 3)), frozen([[0, 0, 1], [1, 0, 0], [0, 1, 2]]))
        self.assertEqual(frozen(table([1, 0], 2)), frozen([[0, 1], [1, 0]]))
        self.assertEqual(frozen(table([0, 1], 2)), frozen([[1, 0], [0, 1]]))
        self.assertEqual(frozen(table([1, 1], 3)), frozen([[0, 0, 0], [0, 2, 0], [0, 0, 0]]))

    def test_no_figures(self):
        for base in BASES:
            self.assertEqual(frozen(table([], base)), frozen([[0] * base for _ in range(base)]))
            self.assertEqual(frozen(table((), base)), frozen([[0] * base for _ in range(base)]))

    def test_as_told(self):
        for row, base in SAMPLES:
            self.assertEqual(frozen(table(row, base)), frozen(plain_table(row, base)))

    def test_parts_and_figures_add_up(self):
        for row, base in SAMPLES:
            told = table(row, base)
            self.assertEqual([sum(part) for part in told], counts(row, base))
            self.assertEqual([sum(figure) for figure in zip(*told)], counts(row, base))

    def test_a_rising_row_stands_in_its_own_parts(self):
        for row, base in SAMPLES:
            for part, often in enumerate(table(sorted(row), base)):
                self.assertEqual(often, [row.count(part) if figure == part else 0 for figure in range(base)])

    def test_list_as_tuple_and_own(self):
        for row, base in SAMPLES:
            check_list_as_tuple(self, table, row, base)
            check_answer_is_own(self, table, row, base)


class Tally(unittest.TestCase):
    def test_plain_ones(self):
        self.assertEqual(frozen(tally([(1, 0), (1, 2), (0, 2)], 3)), frozen([[1, 2, 0], [1, 0, 2]]))

    def test_no_rows_and_no_columns(self):
        for base in BASES:
            for rows in ([], (), [()], [[]], ((), ()), [()] * 200):
                self.assertEqual(frozen(tally(rows, base)), frozen([]))

    def test_as_told(self):
        for rows, base in ROWS:
            plain = [[column.count(figure) for figure in range(base)] for column in zip(*rows)]
            self.assertEqual(frozen(tally(rows, base)), frozen(plain))
            self.assertEqual(len(plain), columns_of(rows))

    def test_rows_in_another_order_have_the_same(self):
        for rows, base in ROWS:
            self.assertEqual(tally(rows[::-1], base), tally(rows, base))

    def test_list_as_tuple_and_own(self):
        for rows, base in ROWS:
            check_list_as_tuple(self, tally, rows, base)
            check_answer_is_own(self, tally, rows, base)


class Beginnings(unittest.TestCase):
    def test_plain_ones(self):
        rows = [(1, 0), (0, 2), (1, 0), (0, 1), (1, 1)]
        self.assertEqual(frozen(beginnings(rows, 0)), frozen([((), 5)]))
        self.assertEqual(frozen(beginnings(rows, 1)), frozen([((0,), 2), ((1,), 3)]))
        told = [((0, 1), 1), ((0, 2), 1), ((1, 0), 2), ((1, 1), 1)]
        self.assertEqual(frozen(beginnings(rows, 2)), frozen(told))

    def test_no_rows_and_no_columns(self):
        self.assertEqual(frozen(beginnings([], 0)), frozen([]))
        self.assertEqual(frozen(beginnings((), 0)), frozen([]))
        self.assertEqual(frozen(beginnings([()], 0)), frozen([((), 1)]))
        self.assertEqual(frozen(beginnings([[]], 0)), frozen([((), 1)]))
        self.assertEqual(frozen(beginnings([()] * 200, 0)), frozen([((), 200)]))

    def test_as_told(self):
        for rows, _ in ROWS:
            columns = columns_of(rows)
            for column in sorted({0, 1, 2, columns // 2, columns - 1, columns} & set(range(columns + 1))):
                plain = sorted(Counter([row[:column] for row in rows]).items())
                self.assertEqual(frozen(beginnings(rows, column)), frozen(plain))

    def test_list_as_tuple_and_own(self):
        for rows, _ in ROWS:
            for column in {0, columns_of(rows)}:
                check_list_as_tuple(self, beginnings, rows, column)
                check_answer_is_own(self, beginnings, rows, column)


class ByCountsAlone(unittest.TestCase):
    def test_figures_are_never_compared(self):
        for rows, base in ROWS:
            self.assertEqual(tally(shy_rows(rows), base), tally(rows, base))
        for row, base in SAMPLES:
            self.assertEqual(counts(shy_rows([row])[0], base), counts(row, base))
            self.assertEqual(table(shy_rows([row])[0], base), table(row, base))


if __name__ == "__main__":
    unittest.main()
