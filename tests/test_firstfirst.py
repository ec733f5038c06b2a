"""Point 8, and points 1 and 2 of firstfirst.py."""

import unittest

from figuresort.counts import beginnings
from figuresort.firstfirst import ahead_of_first, from_first
from figuresort.lastfirst import from_last
from figuresort.orders import put, shows_order, told_order
from helper import (
    check_answer_is_own, check_list_as_tuple, columns_of, deep_rows, frozen, plain_order, row_samples, scattered_rows,
    shy_rows,
)

ROWS = row_samples()


def plain_stretch(rows, order, first, last, column, steps):
    """One stretch with all that comes of it, by Python's own way of putting in order."""
    if last - first < 2 or column == columns_of(rows):
        return
    figures = [rows[place][column] for place in order[first:last]]
    if len(set(figures)) == 1:
        plain_stretch(rows, order, first, last, column + 1, steps)
        return
    order[first:last] = sorted(order[first:last], key=lambda place: rows[place][column])
    steps.append((first, last, column))
    begin = first
    for figure in sorted(set(figures)):
        end = begin + figures.count(figure)
        plain_stretch(rows, order, begin, end, column + 1, steps)
        begin = end


def plain_from_first(rows):
    order = list(range(len(rows)))
    steps = []
    plain_stretch(rows, order, 0, len(rows), 0, steps)
    return (order, steps)


def all_beginnings(rows):
    """The lists of beginnings for column 0, 1 and so on, to that of all figures."""
    return [beginnings(rows, column) for column in range(columns_of(rows) + 1)]


class FromFirst(unittest.TestCase):
    def test_plain_ones(self):
        told = from_first([(1, 0), (0, 1), (1, 1), (0, 0)], 2)
        self.assertEqual(frozen(told), frozen(([3, 1, 0, 2], [(0, 4, 0), (0, 2, 1), (2, 4, 1)])))
        told = from_first([(2, 5, 1), (1, 5, 9), (2, 5, 0)], 10)
        self.assertEqual(frozen(told), frozen(([1, 2, 0], [(0, 3, 0), (1, 3, 2)])))

    def test_no_rows_and_no_columns(self):
        for rows in ([], (), [()], [[]], [(), (), ()], ((),) * 200):
            self.assertEqual(frozen(from_first(rows, 10)), frozen((list(range(len(rows))), [])))

    def test_one_row_and_rows_alike(self):
        for base in (2, 10, 64):
            for columns in (1, 3, 120):
                for many in (1, 2, 200):
                    told = from_first([(base - 1,) * columns] * many, base)
                    self.assertEqual(frozen(told), frozen((list(range(many)), [])))

    def test_a_column_of_one_figure_goes_on(self):
        self.assertEqual(from_first([(3, 1), (3, 0)], 4), ([1, 0], [(0, 2, 1)]))
        self.assertEqual(from_first([(1, 3, 1), (1, 3, 0), (0, 3, 3)], 4), ([2, 1, 0], [(0, 3, 0), (1, 3, 2)]))

    def test_a_stretch_that_stands_in_order_is_a_step_nonetheless(self):
        self.assertEqual(from_first([(0,), (1,)], 2), ([0, 1], [(0, 2, 0)]))

    def test_a_part_is_done_with_all_that_comes_of_it_ahead_of_the_next(self):
        rows = [(1, 0), (1, 1), (0, 1, 1), (0, 1, 0), (0, 0, 1), (0, 0, 0)]
        rows = [(row + (0,))[:3] for row in rows]
        steps = [(0, 6, 0), (0, 4, 1), (0, 2, 2), (2, 4, 2), (4, 6, 1)]
        self.assertEqual(frozen(from_first(rows, 2)), frozen(([5, 4, 3, 2, 0, 1], steps)))

    def test_like_rows_stay_as_they_stood(self):
        self.assertEqual(from_first([(1,), (0,), (1,), (0,), (1,)], 2)[0], [1, 3, 0, 2, 4])
        rows = scattered_rows(200, 2, 3, 13)
        order = from_first(rows, 3)[0]
        for one, other in zip(order, order[1:]):
            self.assertTrue(rows[one] < rows[other] or rows[one] == rows[other] and one < other)

    def test_rows_that_part_one_by_one_through_all_columns(self):
        rows = deep_rows(120)
        order, steps = from_first(rows, 2)
        self.assertEqual(order, list(range(120, -1, -1)))
        self.assertEqual(steps, [(0, 121 - column, column) for column in range(120)])

    def test_steps_one_by_one(self):
        for rows, base in ROWS:
            self.assertEqual(frozen(from_first(rows, base)), frozen(plain_from_first(rows)))

    def test_the_order_is_the_told_one(self):
        for rows, base in ROWS:
            order = from_first(rows, base)[0]
            self.assertEqual(order, plain_order(rows))
            self.assertEqual(order, told_order(rows))
            self.assertEqual(order, from_last(rows, base)[0])
            self.assertIs(shows_order(rows, order), True)
            self.assertEqual(put(rows, order), sorted(rows))

    def test_by_counts_alone(self):
        for rows, base in ROWS:
            self.assertEqual(frozen(from_first(shy_rows(rows), base)), frozen(from_first(rows, base)))

    def test_list_as_tuple_and_own(self):
        for rows, base in ROWS:
            check_list_as_tuple(self, from_first, rows, base)
            check_answer_is_own(self, from_first, rows, base)


class AheadOfFirst(unittest.TestCase):
    def test_plain_ones(self):
        lists = [[((), 4)], [((0,), 2), ((1,), 2)], [((0, 0), 1), ((0, 1), 1), ((1, 0), 1), ((1, 1), 1)]]
        self.assertEqual(frozen(ahead_of_first(lists)), frozen((3, 8)))
        lists = [[((), 5)], [((3,), 5)], [((3, 0), 4), ((3, 2), 1)]]
        self.assertEqual(frozen(ahead_of_first(lists)), frozen((1, 5)))

    def test_nothing_to_do(self):
        for lists in ([], [[]], ((),), [[], [], []], [[((), 1)]], [[((), 200)]], [[((), 3)], [((7,), 3)]]):
            self.assertEqual(frozen(ahead_of_first(lists)), frozen((0, 0)))

    def test_against_the_steps_that_are_done(self):
        for rows, base in ROWS:
            steps = from_first(rows, base)[1]
            moves = sum(last - first for first, last, _ in steps)
            self.assertEqual(frozen(ahead_of_first(all_beginnings(rows))), frozen((len(steps), moves)))

    def test_list_as_tuple_and_own(self):
        for rows, _ in ROWS:
            check_list_as_tuple(self, ahead_of_first, all_beginnings(rows))
            check_answer_is_own(self, ahead_of_first, all_beginnings(rows))


if __name__ == "__main__":
    unittest.main()
