"""Point 12, and points 1 and 2 of runs.py."""

import itertools
import unittest

from figuresort.firstfirst import from_first
from figuresort.lastfirst import from_last
from figuresort.orders import put, shows_order, told_order
from figuresort.runs import ahead_of_runs, by_runs, merged, runs
from helper import (
    check_answer_is_own, check_list_as_tuple, deep_rows, frozen, plain_order, row_samples, scattered_rows, spread,
)

ROWS = row_samples()


def ones(figures):
    """Rows of one figure each."""
    return [(figure,) for figure in figures]


def with_stretches(lengths):
    """Rows that have rising stretches of these lengths: each begins with a lesser one than stood last."""
    return [(len(lengths) - at, place) for at, length in enumerate(lengths) for place in range(length)]


def plain_runs(rows):
    """The lengths between the places at which rows fall."""
    if not rows:
        return []
    falls = [at for at in range(1, len(rows)) if tuple(rows[at]) < tuple(rows[at - 1])]
    edges = [0] + falls + [len(rows)]
    return [last - first for first, last in zip(edges, edges[1:])]


def plain_by_runs(rows):
    """By the words of point 12, each stretch a list of places."""
    stretches = []
    at = 0
    for length in plain_runs(rows):
        stretches.append(list(range(at, at + length)))
        at += length
    steps = []
    while len(stretches) > 1:
        first = 0
        behind = []
        while stretches:
            if len(stretches) == 1:
                behind.append(stretches.pop(0))
                continue
            one, other = stretches.pop(0), stretches.pop(0)
            steps.append((first, first + len(one), first + len(one) + len(other)))
            first += len(one) + len(other)
            behind.append(sorted(one + other, key=lambda place: tuple(rows[place])))
        stretches = behind
    return (stretches[0] if stretches else [], steps)


LENGTHS = (
    [], [1], [200], [1, 1], [1, 1, 1], [3, 1, 2], [5, 4, 3, 2, 1], [1, 2, 3, 4, 5, 6], [7] * 7, [1] * 8, [1] * 9,
    [2] * 16, [2] * 17, [1] * 200, [100, 100], [199, 1], [1, 199], [1] * 31 + [100], [n + 1 for n in spread(25, 7)],
    [n + 1 for n in spread(30, 5, 2)],
)


class Runs(unittest.TestCase):
    def test_plain_ones(self):
        self.assertEqual(frozen(runs(ones([1, 2, 0, 0, 3, 2]))), frozen([2, 3, 1]))
        self.assertEqual(frozen(runs([(1, 0), (0, 1), (0, 0), (1, 1)])), frozen([1, 1, 2]))
        self.assertEqual(frozen(runs(ones([3, 2, 1]))), frozen([1, 1, 1]))

    def test_like_ones_beside_one_another_rise(self):
        self.assertEqual(frozen(runs(ones([5, 5]))), frozen([2]))
        self.assertEqual(frozen(runs(ones([1, 1, 0, 0, 0]))), frozen([2, 3]))
        self.assertEqual(frozen(runs([(1, 2)] * 200)), frozen([200]))

    def test_no_rows_one_row_and_no_columns(self):
        self.assertEqual(frozen(runs([])), frozen([]))
        self.assertEqual(frozen(runs(())), frozen([]))
        self.assertEqual(frozen(runs([(3,)])), frozen([1]))
        self.assertEqual(frozen(runs([()])), frozen([1]))
        self.assertEqual(frozen(runs([[]] * 3)), frozen([3]))

    def test_lengths(self):
        for lengths in LENGTHS:
            self.assertEqual(frozen(runs(with_stretches(lengths))), frozen(lengths))

    def test_as_told(self):
        for rows, _ in ROWS:
            self.assertEqual(frozen(runs(rows)), frozen(plain_runs(rows)))
            self.assertEqual(sum(runs(rows)), len(rows))

    def test_lists_and_tuples_side_by_side(self):
        self.assertEqual(runs([[1, 0], (1, 0), [1, 1], (0, 5), [0, 4]]), [3, 1, 1])

    def test_list_as_tuple_and_own(self):
        for rows, _ in ROWS:
            check_list_as_tuple(self, runs, rows)
            check_answer_is_own(self, runs, rows)


def pairs_of_rising():
    """Pairs of rising lists of rows."""
    short = [ones(row) for many in range(4) for row in itertools.combinations_with_replacement(range(3), many)]
    told = [(one, list(other)) for one in short for other in short]
    for base in (2, 3, 64):
        told.append((sorted(scattered_rows(200, 3, base, 1)), sorted(scattered_rows(200, 3, base, 2))))
        told.append((sorted(scattered_rows(7, 120, base, 1)), sorted(scattered_rows(200, 120, base, 2))))
    told += [(sorted(deep_rows(120)), sorted(deep_rows(120))), ([()] * 200, [()] * 3), ([], [()]), ([(5,)] * 200, [])]
    return told


PAIRS = pairs_of_rising()


class Merged(unittest.TestCase):
    def test_plain_ones(self):
        told = merged(ones([1, 3, 3]), ones([0, 3, 4]))
        self.assertEqual(frozen(told), frozen([(1, 0), (0, 0), (0, 1), (0, 2), (1, 1), (1, 2)]))

    def test_of_like_ones_those_of_one_first(self):
        self.assertEqual(merged(ones([2, 2]), ones([2, 2])), [(0, 0), (0, 1), (1, 0), (1, 1)])
        self.assertEqual(merged([()], [()]), [(0, 0), (1, 0)])

    def test_none_on_one_side_or_both(self):
        for nothing in ([], ()):
            self.assertEqual(frozen(merged(nothing, nothing)), frozen([]))
            self.assertEqual(frozen(merged(ones([1, 2]), nothing)), frozen([(0, 0), (0, 1)]))
            self.assertEqual(frozen(merged(nothing, ones([1, 2]))), frozen([(1, 0), (1, 1)]))

    def test_as_told(self):
        for one, other in PAIRS:
            plain = sorted((row, which, at) for which, rows in enumerate((one, other)) for at, row in enumerate(rows))
            self.assertEqual(frozen(merged(one, other)), frozen([(which, at) for _, which, at in plain]))

    def test_list_beside_tuple(self):
        self.assertEqual(merged([[1, 0], (2, 0)], [(1, 0), [1, 5]]), [(0, 0), (1, 0), (1, 1), (0, 1)])

    def test_list_as_tuple_and_own(self):
        for one, other in PAIRS[::7] + PAIRS[-10:]:
            check_list_as_tuple(self, merged, one, other)
            check_answer_is_own(self, merged, one, other)
        same = ones([1, 1, 4])
        self.assertEqual(merged(same, same), [(0, 0), (0, 1), (1, 0), (1, 1), (0, 2), (1, 2)])


class ByRuns(unittest.TestCase):
    def test_plain_ones(self):
        told = by_runs(ones([1, 4, 0, 2, 3]))
        self.assertEqual(frozen(told), frozen(([2, 0, 3, 4, 1], [(0, 2, 5)])))
        told = by_runs(ones([3, 2, 1, 0]))
        self.assertEqual(frozen(told), frozen(([3, 2, 1, 0], [(0, 1, 2), (2, 3, 4), (0, 2, 4)])))

    def test_one_alone_waits(self):
        told = by_runs(ones([2, 1, 0]))
        self.assertEqual(frozen(told), frozen(([2, 1, 0], [(0, 1, 2), (0, 2, 3)])))
        told = by_runs(ones([4, 3, 2, 1, 0]))
        steps = [(0, 1, 2), (2, 3, 4), (0, 2, 4), (0, 4, 5)]
        self.assertEqual(frozen(told), frozen(([4, 3, 2, 1, 0], steps)))
        told = by_runs(ones([6, 5, 4, 3, 2, 1, 0]))
        steps = [(0, 1, 2), (2, 3, 4), (4, 5, 6), (0, 2, 4), (4, 6, 7), (0, 4, 7)]
        self.assertEqual(frozen(told), frozen(([6, 5, 4, 3, 2, 1, 0], steps)))

    def test_stretches_that_rise_together_once_merged_stay_two(self):
        rows = ones([1, 0, 3, 2])
        self.assertEqual(frozen(by_runs(rows)), frozen(([1, 0, 3, 2], [(0, 1, 3), (0, 3, 4)])))

    def test_without_steps(self):
        for rows in ([], (), [()], [(1,)], ones([0, 0, 1, 5]), [()] * 200, [(63,) * 120] * 200):
            self.assertEqual(frozen(by_runs(rows)), frozen((list(range(len(rows))), [])))

    def test_like_rows_stay_as_they_stood(self):
        self.assertEqual(by_runs(ones([1, 0, 1, 0, 1]))[0], [1, 3, 0, 2, 4])

    def test_as_told(self):
        for rows in [rows for rows, _ in ROWS] + [with_stretches(lengths) for lengths in LENGTHS]:
            self.assertEqual(frozen(by_runs(rows)), frozen(plain_by_runs(rows)))

    def test_the_order_is_the_told_one(self):
        for rows, base in ROWS:
            order = by_runs(rows)[0]
            self.assertEqual(order, told_order(rows))
            self.assertEqual(order, plain_order(rows))
            self.assertIs(shows_order(rows, order), True)
            self.assertEqual(order, from_last(rows, base)[0])
            self.assertEqual(order, from_first(rows, base)[0])
            self.assertEqual(put(rows, order), sorted(rows))

    def test_all_short_rows(self):
        for many in range(6):
            for row in itertools.product(range(3), repeat=many):
                self.assertEqual(by_runs(ones(row)), plain_by_runs(ones(row)))
                self.assertEqual(by_runs(ones(row))[0], plain_order(ones(row)))

    def test_list_as_tuple_and_own(self):
        for rows, _ in ROWS:
            check_list_as_tuple(self, by_runs, rows)
            check_answer_is_own(self, by_runs, rows)
        self.assertEqual(by_runs([[1, 0], (0, 1), [0, 1]])[0], [1, 2, 0])


class AheadOfRuns(unittest.TestCase):
    def test_plain_ones(self):
        self.assertEqual(frozen(ahead_of_runs([2, 3])), frozen(([(0, 2, 5)], 5)))
        self.assertEqual(frozen(ahead_of_runs([2, 3, 1])), frozen(([(0, 2, 5), (0, 5, 6)], 11)))
        steps = [(0, 1, 3), (3, 6, 10), (0, 3, 10), (0, 10, 15)]
        self.assertEqual(frozen(ahead_of_runs([1, 2, 3, 4, 5])), frozen((steps, 35)))

    def test_of_none_and_of_one(self):
        for lengths in ([], (), [1], (1,), [200], (77,)):
            self.assertEqual(frozen(ahead_of_runs(lengths)), frozen(([], 0)))

    def test_against_the_steps_that_are_done(self):
        for rows in [rows for rows, _ in ROWS] + [with_stretches(lengths) for lengths in LENGTHS]:
            steps = by_runs(rows)[1]
            moves = sum(last - first for first, _, last in steps)
            self.assertEqual(frozen(ahead_of_runs(runs(rows))), frozen((steps, moves)))
            self.assertEqual(frozen(plain_by_runs(rows)[1]), frozen(steps))

    def test_from_lengths_alone(self):
        for lengths in LENGTHS:
            steps, moves = ahead_of_runs(lengths)
            self.assertEqual(frozen(steps), frozen(plain_by_runs(with_stretches(lengths))[1]))
            self.assertEqual(moves, sum(last - first for first, _, last in steps))
            self.assertEqual(len(steps), max(len(lengths) - 1, 0))

    def test_list_as_tuple_and_own(self):
        for lengths in LENGTHS:
            check_list_as_tuple(self, ahead_of_runs, lengths)
            check_answer_is_own(self, ahead_of_runs, lengths)


if __name__ == "__main__":
    unittest.main()
