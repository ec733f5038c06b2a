"""Point 14, and points 1 and 2 of merging.py."""

import itertools
import unittest

from figuresort.errors import NotRising, SortError
from figuresort.merging import Merge, many_merged
from figuresort.runs import merged
from helper import (
    check_answer_is_own, check_asks_are_own, check_list_as_tuple, deep_rows, frozen, scattered_rows, spoil, spread,
    turned,
)


def ones(figures):
    """Rows of one figure each."""
    return [(figure,) for figure in figures]


def scattered_lists(many, longest, columns, below):
    """So many rising lists of scattered lengths, from none on."""
    lengths = spread(many, longest + 1, many)
    return [sorted(scattered_rows(length, columns, below, at + 1)) for at, length in enumerate(lengths)]


def list_samples():
    short = [ones(row) for many in range(3) for row in itertools.combinations_with_replacement(range(2), many)]
    told = [[], [[]], [[], []], [[()]], [[()] * 3, [], [()] * 2], [[]] * 200, [ones([1])] * 200, [ones([0, 0, 5])]]
    told += [list(lists) for many in (2, 3) for lists in itertools.product(short, repeat=many)]
    told += [scattered_lists(many, longest, columns, below)
             for many, longest, columns, below in ((5, 9, 2, 3), (200, 4, 1, 5), (30, 30, 3, 64), (9, 6, 120, 2))]
    told += [[sorted(scattered_rows(200, 2, 64, 3))] * 3, [sorted(deep_rows(120)), [], sorted(deep_rows(120))]]
    told.append([ones([n]) for n in range(63, -1, -1)])
    return [[list(rows) for rows in lists] for lists in told]


SAMPLES = list_samples()

NOT_RISING = (
    (0, [ones([1, 0])]), (0, [ones([1, 0]), ones([1, 0])]), (1, [[], ones([2, 2, 1]), ones([1])]),
    (1, [ones([0, 5]), ones([5, 0]), ones([5, 0])]), (2, [ones([1]), [], [(1, 0), (0, 9)]]),
    (199, [ones([1, 2])] * 199 + [ones([1, 2, 1])]), (0, [ones(range(63, -1, -1))]),
    (1, [[(1,) * 120], [(1,) * 119 + (1,), (1,) * 119 + (0,)]]), (0, [ones([0] * 199) + [(1,), (0,)]]),
    (3, [[], [], [], ones([1, 2, 3, 0, 4])]),
)


def plain_pairs(lists):
    """All pairs (number of the list, row), by the least row, the first list and the first place."""
    every = sorted((tuple(row), number, at) for number, rows in enumerate(lists) for at, row in enumerate(rows))
    return [(number, row) for row, number, _ in every]


def all_pairs(merge):
    told = []
    while True:
        pair = merge.next()
        if pair is None:
            return told
        told.append(pair)


class Merging(unittest.TestCase):
    def test_plain_ones(self):
        merge = Merge([ones([1, 3]), [], ones([0, 1, 4])])
        told = [(merge.left(), merge.next()) for _ in range(7)]
        self.assertEqual(frozen(told), frozen([
            ([2, 0, 3], (2, (0,))), ([2, 0, 2], (0, (1,))), ([1, 0, 2], (2, (1,))), ([1, 0, 1], (0, (3,))),
            ([0, 0, 1], (2, (4,))), ([0, 0, 0], None), ([0, 0, 0], None),
        ]))

    def test_of_like_ones_that_of_the_first_list(self):
        merge = Merge([ones([2, 2]), ones([1, 2]), ones([2])])
        self.assertEqual([number for number, _ in all_pairs(merge)], [1, 0, 0, 1, 2])

    def test_no_lists_and_empty_ones(self):
        for many in (0, 1, 2, 200):
            for kind in (list, tuple):
                merge = Merge(kind(kind() for _ in range(many)))
                for _ in range(3):
                    self.assertEqual(frozen((merge.next(), merge.left())), frozen((None, [0] * many)))

    def test_one_list(self):
        merge = Merge([ones([0, 0, 5])])
        self.assertEqual(frozen(all_pairs(merge)), frozen([(0, (0,)), (0, (0,)), (0, (5,))]))

    def test_200_lists_of_200_rows(self):
        lists = [sorted(scattered_rows(200, 1, 64, at)) for at in range(200)]
        self.assertEqual(many_merged(lists), plain_pairs(lists))

    def test_each_next_and_what_is_left_behind_it(self):
        for lists in SAMPLES:
            merge = Merge(lists)
            left = [len(rows) for rows in lists]
            self.assertEqual(frozen(merge.left()), frozen(left))
            for number, row in plain_pairs(lists):
                self.assertEqual(frozen(merge.next()), frozen((number, row)))
                left[number] -= 1
                self.assertEqual(merge.left(), left)
            for _ in range(3):
                self.assertIsNone(merge.next())
                self.assertEqual(frozen(merge.left()), frozen([0] * len(lists)))

    def test_many_merged(self):
        self.assertEqual(frozen(many_merged([ones([1]), ones([0, 1])])), frozen([(1, (0,)), (0, (1,)), (1, (1,))]))
        for lists in SAMPLES:
            self.assertEqual(frozen(many_merged(lists)), frozen(plain_pairs(lists)))
            self.assertEqual(frozen(many_merged(lists)), frozen(all_pairs(Merge(lists))))

    def test_two_lists_as_merged_tells(self):
        for lists in SAMPLES:
            if len(lists) == 2:
                rightly = [(which, lists[which][at]) for which, at in merged(lists[0], lists[1])]
                self.assertEqual(frozen(many_merged(lists)), frozen(rightly))


class Refused(unittest.TestCase):
    def check_refused(self, place, lists):
        for deed in (Merge, many_merged):
            before = frozen(lists)
            with self.assertRaises(NotRising) as caught:
                deed(lists)
            self.assertIs(type(caught.exception), NotRising)
            self.assertIsInstance(caught.exception, SortError)
            self.assertEqual(frozen(caught.exception.place), frozen(place))
            self.assertEqual(frozen(lists), before)

    def test_the_first_list_that_is_not_rising(self):
        for place, lists in NOT_RISING:
            self.check_refused(place, lists)
            self.check_refused(place, turned(lists, list))
            self.check_refused(place, turned(lists, tuple))

    def test_all_short_lists(self):
        rows = [ones(row) for many in range(4) for row in itertools.product(range(2), repeat=many)]
        for lists in itertools.product(rows, repeat=2):
            falling = [number for number, rows in enumerate(lists) if rows != sorted(rows)]
            if falling:
                self.check_refused(falling[0], lists)
            else:
                self.assertEqual(many_merged(lists), plain_pairs(lists))

    def test_a_refusal_leaves_others_as_they_are(self):
        lists = [ones([0, 1]), ones([1, 2])]
        merge = Merge(lists)
        merge.next()
        with self.assertRaises(NotRising):
            Merge([ones([1, 0])])
        self.assertEqual(merge.left(), [1, 2])
        self.assertEqual(all_pairs(merge), plain_pairs(lists)[1:])


class Own(unittest.TestCase):
    def test_list_as_tuple(self):
        for lists in SAMPLES:
            for kind in (list, tuple):
                merge = Merge(turned(lists, kind))
                self.assertEqual(frozen(merge.left()), frozen([len(rows) for rows in lists]))
                self.assertEqual(frozen(all_pairs(merge)), frozen(plain_pairs(lists)))
            check_list_as_tuple(self, many_merged, lists)
        self.assertEqual(many_merged([[[1, 0], (1, 1)], ([0, 5], (1, 0))]),
                         [(1, (0, 5)), (0, (1, 0)), (1, (1, 0)), (0, (1, 1))])

    def test_what_is_handed_in_is_neither_changed_nor_kept(self):
        for lists in SAMPLES:
            for kind in (list, tuple):
                handed = [[kind(row) for row in rows] for rows in lists]
                before = frozen(handed)
                merge = Merge(handed)
                first = merge.next()
                self.assertEqual(frozen(handed), before)
                spoil(handed)
                told = all_pairs(merge)
                self.assertEqual(frozen(([first] if first else []) + told), frozen(plain_pairs(lists)))

    def test_answers_are_the_askers_own(self):
        for lists in SAMPLES:
            check_answer_is_own(self, many_merged, lists)
            merge = Merge(lists)
            for _ in plain_pairs(lists)[:20]:
                check_asks_are_own(self, merge, "left")
                merge.next()
            check_asks_are_own(self, merge, "left")

    def test_what_was_left_stays_as_it_was_told(self):
        merge = Merge([ones([0, 1])])
        left = merge.left()
        merge.next()
        self.assertEqual((left, merge.left()), ([2], [1]))

    def test_two_side_by_side(self):
        lists = scattered_lists(9, 9, 2, 3)
        one, other = Merge(lists), Merge(lists)
        self.assertEqual(all_pairs(one), plain_pairs(lists))
        self.assertEqual(other.left(), [len(rows) for rows in lists])
        self.assertEqual(all_pairs(other), plain_pairs(lists))


if __name__ == "__main__":
    unittest.main()
