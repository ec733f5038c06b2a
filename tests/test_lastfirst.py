"""Point 7, and points 1 and 2 of lastfirst.py."""

import unittest

from figuresort.counts import tally
from figuresort.lastfirst import ahead_of_last, from_last
from figuresort.orders import put, shows_order, told_order
from helper import (
    check_answer_is_own, check_list_as_tuple, columns_of, frozen, plain_order, row_samples, scattered_rows, shy_rows,
)

ROWS = row_samples()


def plain_from_last(rows):
    """Column by column, from the last on, by Python's own way of putting in order."""
    order = list(range(len(rows)))
    steps = []
    for column in reversed(range(columns_of(rows))):
        if len({row[column] for row in rows}) > 1:
            order = sorted(order, key=lambda place: rows[place][column])
            steps.append((column, order))
    return (order, steps)


class FromLast(unittest.TestCase):
    def test_plain_ones(self):
        told = from_last([(1, 0), (0, 1), (1, 1), (0, 0)], 2)
        self.assertEqual(frozen(told), frozen(([3, 1, 0, 2], [(1, [0, 3, 1, 2]), (0, [3, 1, 0, 2])])))
        told = from_last([(2, 5, 1), (1, 5, 9), (2, 5, 1)], 10)
        self.assertEqual(frozen(told), frozen(([1, 0, 2], [(2, [0, 2, 1]), (0, [1, 0, 2])])))

    def test_no_rows_and_no_columns(self):
        for rows in ([], (), [()], [[]], [(), (), ()], ((),) * 200):
            self.assertEqual(frozen(from_last(rows, 10)), frozen((list(range(len(rows))), [])))

    def test_one_row_and_rows_alike(self):
        for base in (2, 10, 64):
            for columns in (1, 3, 120):
                for many in (1, 2, 200):
                    told = from_last([(base - 1,) * columns] * many, base)
                    self.assertEqual(frozen(told), frozen((list(range(many)), [])))

    def test_a_column_of_one_figure_is_passed_over(self):
        self.assertEqual(from_last([(1, 3, 0), (0, 3, 0)], 4), ([1, 0], [(0, [1, 0])]))
        self.assertEqual(from_last([(3, 1), (3, 0)], 4), ([1, 0], [(1, [1, 0])]))
        self.assertEqual(from_last([(0, 1), (0, 0)], 4), ([1, 0], [(1, [1, 0])]))

    def test_a_column_that_stands_in_order_is_a_step_nonetheless(self):
        self.assertEqual(from_last([(0,), (1,)], 2), ([0, 1], [(0, [0, 1])]))

    def test_like_rows_stay_as_they_stood(self):
        self.assertEqual(from_last([(1,), (0,), (1,), (0,), (1,)], 2)[0], [1, 3, 0, 2, 4])
        rows = scattered_rows(200, 2, 3, 13)
        order = from_last(rows, 3)[0]
        for one, other in zip(order, order[1:]):
            self.assertTrue(rows[one] < rows[other] or rows[one] == rows[other] and one < other)

    def test_steps_one_by_one(self):
        for rows, base in ROWS:
            self.assertEqual(frozen(from_last(rows, base)), frozen(plain_from_last(rows)))

    def test_the_order_is_the_told_one(self):
        for rows, base in ROWS:
            order, steps = from_last(rows, base)
            self.assertEqual(order, plain_order(rows))
            self.assertEqual(order, told_order(rows))
            self.assertIs(shows_order(rows, order), True)
            self.assertEqual(put(rows, order), sorted(rows))
            self.assertEqual(order, steps[-1][1] if steps else list(range(len(rows))))

    def test_by_counts_alone(self):
        for rows, base in ROWS:
            self.assertEqual(frozen(from_last(shy_rows(rows), base)), frozen(from_last(rows, base)))

    def test_list_as_tuple_and_own(self):
        for rows, base in ROWS:
            check_list_as_tuple(self, from_last, rows, base)
            check_answer_is_own(self, from_last, rows, base)


class AheadOfLast(unittest.TestCase):
    def test_plain_ones(self):
        self.assertEqual(frozen(ahead_of_last([[1, 2, 0], [0, 3, 0], [1, 1, 1]])), frozen(([2, 0], 6)))
        self.assertEqual(frozen(ahead_of_last([[2, 2]])), frozen(([0], 4)))

    def test_nothing_to_do(self):
        for told in ([], (), [[0, 1]], [[5, 0], [0, 5]], [[0] * 64], ((0, 0), (0, 0))):
            self.assertEqual(frozen(ahead_of_last(told)), frozen(([], 0)))

    def test_noughts_alone_are_passed_over(self):
        self.assertEqual(frozen(ahead_of_last([[0, 0, 0], [1, 0, 1], [0, 0, 0]])), frozen(([1], 2)))

    def test_against_the_steps_that_are_done(self):
        for rows, base in ROWS:
            steps = from_last(rows, base)[1]
            columns = [column for column, _ in steps]
            moves = sum(len(order) for _, order in steps)
            self.assertEqual(frozen(ahead_of_last(tally(rows, base))), frozen((columns, moves)))
            self.assertEqual(moves, len(rows) * len(steps))

    def test_list_as_tuple_and_own(self):
        for rows, base in ROWS:
            check_list_as_tuple(self, ahead_of_last, tally(rows, base))
            check_answer_is_own(self, ahead_of_last, tally(rows, base))


if __name__ == "__main__":
    unittest.main()
