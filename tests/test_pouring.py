"""Point 13, and points 1 and 2 of pouring.py."""

import itertools
import unittest

from figuresort.orders import is_order, put, shows_order, told_order
from figuresort.pouring import Pour, ahead_of_pours
from helper import (
    check_answer_is_own, check_asks_are_own, check_list_as_tuple, deep_rows, frozen, late_rows, plain_order,
    scattered_rows, spoil, spread, turned,
)


def ones(figures):
    """Rows of one figure each."""
    return [(figure,) for figure in figures]


def plain_heaps(lengths):
    """The heaps and the moves behind each pouring, by the words of point 13."""
    heaps, moves, told = [], 0, []
    for length in lengths:
        heaps = heaps + [length]
        while len(heaps) >= 2 and not heaps[-1] < heaps[-2]:
            heaps = heaps[:-2] + [heaps[-2] + heaps[-1]]
            moves += heaps[-1]
        told.append((list(heaps), moves))
    return told


def in_pourings(rows, lengths):
    """The rows, parted into pourings of these lengths."""
    told = []
    at = 0
    for length in lengths:
        told.append(rows[at:at + length])
        at += length
    return told


LENGTHS = (
    [], [1], [200], [1, 1], [1, 1, 1], [2, 1], [1, 2], [2, 1, 1], [3, 2, 1], [1, 2, 3], [4, 3, 2, 1], [5, 3, 2, 1],
    [8, 4, 2, 1, 1], [8, 4, 2, 1, 2], [16, 1, 8, 1, 4], [1] * 8, [1] * 31, [1] * 200, [100, 100], [100, 99], [99, 100],
    [7, 7, 7], [13, 5, 5, 2, 2, 1], [2, 3, 1, 1, 1, 1, 1, 20], list(range(19, 0, -1)), list(range(1, 20)),
    [n + 1 for n in spread(40, 9)], [n + 1 for n in spread(12, 30, 2)],
)


def pour_samples():
    """Lists of pourings."""
    told = []
    for lengths in LENGTHS:
        many = sum(lengths)
        told.append(in_pourings(scattered_rows(many, 2, 3, many), lengths))
        told.append(in_pourings([(1, 0)] * many, lengths))
    for lengths in ([5] * 6, [9, 1, 3, 1, 1], [1] * 20):
        many = sum(lengths)
        told.append(in_pourings([()] * many, lengths))
        told.append(in_pourings(late_rows(many, 120, 64), lengths))
        told.append(in_pourings(sorted(scattered_rows(many, 3, 10))[::-1], lengths))
    told.append(in_pourings(deep_rows(120), [40, 40, 20, 1, 20]))
    return told


SAMPLES = pour_samples()


def poured(pourings):
    pour = Pour()
    for rows in pourings:
        pour.pour(rows)
    return pour


def all_told(pour):
    return (pour.heaps(), pour.order(), pour.rows(), pour.moves())


class Pouring(unittest.TestCase):
    def test_plain_ones(self):
        pour = Pour()
        self.assertEqual(frozen(all_told(pour)), frozen(([], [], [], 0)))
        self.assertEqual(frozen(pour.pour(ones([5, 1, 3]))), frozen(0))
        self.assertEqual(frozen(all_told(pour)), frozen(([3], [1, 2, 0], ones([1, 3, 5]), 0)))
        self.assertEqual(frozen(pour.pour(ones([3]))), frozen(0))
        self.assertEqual(frozen(all_told(pour)), frozen(([3, 1], [1, 2, 3, 0], ones([1, 3, 3, 5]), 0)))
        self.assertEqual(frozen(pour.pour(ones([0]))), frozen(2))
        self.assertEqual(frozen(all_told(pour)), frozen(([3, 2], [4, 1, 2, 3, 0], ones([0, 1, 3, 3, 5]), 2)))
        self.assertEqual(frozen(pour.pour(ones([9, 0]))), frozen(4 + 7))
        rows = ones([0, 0, 1, 3, 3, 5, 9])
        self.assertEqual(frozen(all_told(pour)), frozen(([7], [4, 6, 1, 2, 3, 0, 5], rows, 13)))

    def test_like_heaps_become_one_and_shorter_ones_wait(self):
        pour = Pour()
        self.assertEqual([pour.pour([(1,)] * many) for many in (4, 3)], [0, 0])
        self.assertEqual(pour.heaps(), [4, 3])
        self.assertEqual((pour.pour([(1,)] * 3), pour.heaps()), (6 + 10, [10]))
        self.assertEqual((pour.pour([(1,)] * 10), pour.heaps()), (20, [20]))

    def test_like_rows_of_several_pourings_as_they_came(self):
        pour = poured([[(2,), (1,)], [(1,)], [(2,), (1,), (0,)], [(1,)]])
        self.assertEqual(pour.order(), [5, 1, 2, 4, 6, 0, 3])

    def test_rows_are_not_in_heaps_of_their_own_alone(self):
        pour = poured([ones([9, 1, 5, 7]), ones([6, 2]), ones([4])])
        self.assertEqual(pour.heaps(), [4, 2, 1])
        self.assertEqual(pour.rows(), ones([1, 2, 4, 5, 6, 7, 9]))
        self.assertEqual(pour.order(), [1, 5, 6, 2, 4, 3, 0])
        self.assertEqual(pour.moves(), 0)

    def test_behind_each_pouring(self):
        for pourings in SAMPLES:
            pour = Pour()
            came, moves = [], 0
            ahead = plain_heaps([len(rows) for rows in pourings])
            for rows, (heaps, all_moves) in zip(pourings, ahead):
                came = came + rows
                self.assertEqual(frozen(pour.pour(rows)), frozen(all_moves - moves))
                moves = all_moves
                told = (heaps, plain_order(came), sorted(came), moves)
                self.assertEqual(frozen(all_told(pour)), frozen(told))

    def test_the_order_is_the_told_one(self):
        for pourings in SAMPLES:
            came = [row for rows in pourings for row in rows]
            pour = poured(pourings)
            self.assertIs(is_order(pour.order()), True)
            self.assertIs(shows_order(came, pour.order()), True)
            self.assertEqual(pour.order(), told_order(came))
            self.assertEqual(frozen(pour.rows()), frozen(put(came, pour.order())))

    def test_heaps_grow_shorter(self):
        for pourings in SAMPLES:
            heaps = poured(pourings).heaps()
            self.assertEqual(heaps, sorted(set(heaps), reverse=True))
            self.assertEqual(sum(heaps), sum(len(rows) for rows in pourings))


class Own(unittest.TestCase):
    def test_list_as_tuple(self):
        for pourings in SAMPLES:
            told = frozen(all_told(poured(pourings)))
            for kind in (list, tuple):
                self.assertEqual(frozen(all_told(poured(turned(pourings, kind)))), told)
        pour = poured([[[1, 0], (0, 1)], ([0, 1], (1, 0))])
        self.assertEqual(frozen(pour.rows()), frozen([(0, 1), (0, 1), (1, 0), (1, 0)]))

    def test_what_is_handed_in_is_neither_changed_nor_kept(self):
        for pourings in SAMPLES:
            for kind in (list, tuple):
                pour = Pour()
                for rows in pourings:
                    handed = [kind(row) for row in rows]
                    pour.pour(handed)
                    self.assertEqual(handed, [kind(row) for row in rows])
                    spoil(handed)
                self.assertEqual(frozen(all_told(pour)), frozen(all_told(poured(pourings))))

    def test_answers_are_the_askers_own(self):
        for pourings in SAMPLES:
            pour = Pour()
            check_asks_are_own(self, pour, "heaps", "order", "rows", "moves")
            for rows in pourings[:12]:
                pour.pour(rows)
                check_asks_are_own(self, pour, "heaps", "order", "rows", "moves")

    def test_nothing_done_later_changes_what_was_told(self):
        pour = poured([ones([3, 1]), ones([2])])
        told = all_told(pour)
        before = frozen(told)
        pour.pour(ones([0, 7, 7]))
        self.assertEqual(frozen(told), before)

    def test_what_was_told_may_be_poured_again(self):
        pour = poured([ones([3, 1, 2])])
        pour.pour(pour.rows())
        self.assertEqual(frozen(all_told(pour)), frozen(([6], [1, 3, 2, 4, 0, 5], ones([1, 1, 2, 2, 3, 3]), 6)))

    def test_asking_changes_nothing(self):
        for pourings in SAMPLES[:20]:
            asked, unasked = Pour(), Pour()
            for rows in pourings:
                self.assertEqual(asked.pour(rows), unasked.pour(rows))
                all_told(asked)
            self.assertEqual(frozen(all_told(asked)), frozen(all_told(unasked)))

    def test_two_side_by_side(self):
        one, other = Pour(), Pour()
        rows = ones([2, 0, 1])
        one.pour(rows)
        self.assertEqual(frozen(all_told(other)), frozen(([], [], [], 0)))
        other.pour(ones([4]))
        one.pour(rows)
        self.assertEqual(frozen(all_told(other)), frozen(([1], [0], [(4,)], 0)))
        self.assertEqual(frozen(all_told(one)), frozen(([6], [1, 4, 2, 5, 0, 3], ones([0, 0, 1, 1, 2, 2]), 6)))


class AheadOfPours(unittest.TestCase):
    def test_plain_ones(self):
        self.assertEqual(frozen(ahead_of_pours([3, 1, 1, 2])), frozen(([7], 2 + 4 + 7)))
        self.assertEqual(frozen(ahead_of_pours([3, 2, 1])), frozen(([3, 2, 1], 0)))
        self.assertEqual(frozen(ahead_of_pours([1, 1])), frozen(([2], 2)))
        self.assertEqual(frozen(ahead_of_pours([1] * 7)), frozen(([4, 2, 1], 2 + 2 + 4 + 2)))

    def test_of_none_and_of_one(self):
        for lengths in ([], ()):
            self.assertEqual(frozen(ahead_of_pours(lengths)), frozen(([], 0)))
        for many in (1, 2, 200):
            self.assertEqual(frozen(ahead_of_pours([many])), frozen(([many], 0)))

    def test_against_what_comes(self):
        for pourings in SAMPLES:
            lengths = [len(rows) for rows in pourings]
            pour = poured(pourings)
            self.assertEqual(frozen(ahead_of_pours(lengths)), frozen((pour.heaps(), pour.moves())))

    def test_each_beginning(self):
        for lengths in LENGTHS:
            for at, behind in enumerate(plain_heaps(lengths)):
                self.assertEqual(frozen(ahead_of_pours(lengths[:at + 1])), frozen(behind))

    def test_all_short_ones(self):
        for many in range(1, 6):
            for lengths in itertools.product(range(1, 5), repeat=many):
                self.assertEqual(ahead_of_pours(lengths), plain_heaps(lengths)[-1])

    def test_list_as_tuple_and_own(self):
        for lengths in LENGTHS:
            check_list_as_tuple(self, ahead_of_pours, lengths)
            check_answer_is_own(self, ahead_of_pours, lengths)


if __name__ == "__main__":
    unittest.main()
