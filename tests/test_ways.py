"""Point 15, and points 1 and 2 of ways.py."""

import itertools
import unittest
from fractions import Fraction

from figuresort.counts import beginnings, tally
from figuresort.firstfirst import ahead_of_first
from figuresort.lastfirst import ahead_of_last
from figuresort.orders import is_order, put
from figuresort.runs import ahead_of_runs, runs
from figuresort.spelling import spelled
from figuresort.ways import cheapest, moves_ahead, ordered
from helper import (
    BASES, check_answer_is_own, check_list_as_tuple, columns_of, frozen, key_samples, spread,
)

WAYS = ("last", "first", "runs")
KEYS = key_samples()


def plain_keys_order(kind, keys):
    """The order by which keys rise, like ones as they stood, found by comparing keys."""
    size = (lambda key: Fraction(*key)) if kind == "part" else (lambda key: key)
    return sorted(range(len(keys)), key=lambda place: size(keys[place]))


def plain_moves_ahead(kind, keys, base):
    by, rows = spelled(kind, keys, base)
    lists = [beginnings(rows, column) for column in range(columns_of(rows) + 1)]
    return [
        ("last", ahead_of_last(tally(rows, by))[1]), ("first", ahead_of_first(lists)[1]),
        ("runs", ahead_of_runs(runs(rows))[1]),
    ]


class MovesAhead(unittest.TestCase):
    def test_plain_ones(self):
        told = moves_ahead("number", [12, -5, 33], 10)
        self.assertEqual(frozen(told), frozen([("last", 6), ("first", 3), ("runs", 3)]))
        told = moves_ahead("text", ["b", "a", "ab", ""], 10)
        self.assertEqual(frozen(told), frozen([("last", 8), ("first", 6), ("runs", 7)]))
        told = moves_ahead("part", [(1, 2), (1, 3), (-1, 1)], 2)
        self.assertEqual(frozen(told), frozen([("last", 6), ("first", 5), ("runs", 5)]))

    def test_of_none_of_one_and_of_like_ones(self):
        nought = frozen([("last", 0), ("first", 0), ("runs", 0)])
        for kind, key in (("number", 5), ("number", -10 ** 18 + 1), ("part", (-7, 60)), ("text", ""), ("text", "fig")):
            for base in BASES:
                for many in (0, 1, 2, 200):
                    self.assertEqual(frozen(moves_ahead(kind, [key] * many, base)), nought)
                    self.assertEqual(frozen(moves_ahead(kind, (key,) * many, base)), nought)

    def test_as_told(self):
        for kind, keys, base in KEYS:
            self.assertEqual(frozen(moves_ahead(kind, keys, base)), frozen(plain_moves_ahead(kind, keys, base)))

    def test_numbers_one_apart(self):
        for n in (10 ** 17, 10 ** 18 - 2, -10 ** 18 + 1, -1, 0):
            for base in (2, 64):
                told = moves_ahead("number", [n + 1, n], base)
                self.assertEqual(told, [("last", 2), ("first", 2), ("runs", 2)])
                self.assertEqual(moves_ahead("number", [n, n + 1], base), [("last", 2), ("first", 2), ("runs", 0)])

    def test_list_as_tuple_and_own(self):
        for kind, keys, base in KEYS:
            check_list_as_tuple(self, moves_ahead, kind, keys, base)
            check_answer_is_own(self, moves_ahead, kind, keys, base)


class Cheapest(unittest.TestCase):
    def test_plain_ones(self):
        self.assertEqual(frozen(cheapest("number", [12, -5, 33], 10)), frozen(("first", 3)))
        self.assertEqual(frozen(cheapest("number", [1, 2, 3], 10)), frozen(("runs", 0)))
        self.assertEqual(frozen(cheapest("number", [3, 2, 1, 0], 4)), frozen(("last", 4)))
        self.assertEqual(frozen(cheapest("text", ["b", "a", "ab", ""], 2)), frozen(("first", 6)))

    def test_of_like_ones_the_first(self):
        self.assertEqual(frozen(cheapest("number", [], 2)), frozen(("last", 0)))
        self.assertEqual(frozen(cheapest("text", ["a"], 64)), frozen(("last", 0)))
        self.assertEqual(frozen(cheapest("part", [(1, 2)] * 200, 64)), frozen(("last", 0)))
        self.assertEqual(frozen(cheapest("number", [1, 0], 2)), frozen(("last", 2)))

    def test_as_told(self):
        for kind, keys, base in KEYS:
            plain = plain_moves_ahead(kind, keys, base)
            least = min(moves for _, moves in plain)
            rightly = [pair for pair in plain if pair[1] == least][0]
            self.assertEqual(frozen(cheapest(kind, keys, base)), frozen(rightly))

    def test_each_way_is_the_cheapest_of_some_keys(self):
        self.assertEqual({cheapest(kind, keys, base)[0] for kind, keys, base in KEYS}, set(WAYS))

    def test_list_as_tuple_and_own(self):
        for kind, keys, base in KEYS:
            check_list_as_tuple(self, cheapest, kind, keys, base)
            check_answer_is_own(self, cheapest, kind, keys, base)


class Ordered(unittest.TestCase):
    def test_plain_ones(self):
        for way, moves in (("last", 6), ("first", 3), ("runs", 3)):
            told = ordered(way, "number", [12, -5, 33], 10)
            self.assertEqual(frozen(told), frozen(([-5, 12, 33], [1, 0, 2], moves)))
        for way, moves in (("last", 8), ("first", 6), ("runs", 7)):
            told = ordered(way, "text", ["b", "a", "ab", ""], 10)
            self.assertEqual(frozen(told), frozen((["", "a", "ab", "b"], [3, 1, 2, 0], moves)))

    def test_of_none_and_of_one(self):
        for way in WAYS:
            for kind, key in (("number", -3), ("part", (1, 2)), ("text", "")):
                for nothing in ([], ()):
                    self.assertEqual(frozen(ordered(way, kind, nothing, 10)), frozen(([], [], 0)))
                self.assertEqual(frozen(ordered(way, kind, [key], 10)), frozen(([key], [0], 0)))

    def test_like_keys_as_they_stood(self):
        for way in WAYS:
            self.assertEqual(ordered(way, "number", [1, 0, 1, 0, 1], 2)[1], [1, 3, 0, 2, 4])
            self.assertEqual(ordered(way, "text", ["b", "a", "b", ""], 2)[1], [3, 1, 0, 2])
            self.assertEqual(ordered(way, "number", [7] * 200, 64), ([7] * 200, list(range(200)), 0))

    def test_numbers_of_18_figures_one_apart(self):
        most = 10 ** 18 - 1
        keys = [most, most - 1, -most, 1 - most, most - 2]
        for way, base in itertools.product(WAYS, (2, 10, 64)):
            told = ordered(way, "number", keys, base)
            self.assertEqual(told[:2], ([-most, 1 - most, most - 2, most - 1, most], [2, 3, 4, 1, 0]))

    def test_the_same_order_by_every_way(self):
        for kind, keys, base in KEYS:
            order = plain_keys_order(kind, keys)
            for way in WAYS:
                told = ordered(way, kind, keys, base)
                self.assertEqual(frozen(told[:2]), frozen((put(keys, order), order)))
                self.assertIs(is_order(told[1]), True)

    def test_moves_as_many_as_were_told_ahead(self):
        for kind, keys, base in KEYS:
            for way, moves in moves_ahead(kind, keys, base):
                self.assertEqual(frozen(ordered(way, kind, keys, base)[2]), frozen(moves))
            way, moves = cheapest(kind, keys, base)
            self.assertEqual(ordered(way, kind, keys, base)[2], moves)

    def test_parts_are_told_as_tuples(self):
        for way in WAYS:
            told = ordered(way, "part", ([1, 2], (1, 3), [-1, 1]), 10)
            self.assertEqual(frozen(told[0]), frozen([(-1, 1), (1, 3), (1, 2)]))

    def test_list_as_tuple_and_own(self):
        for kind, keys, base in KEYS:
            for way in WAYS:
                check_list_as_tuple(self, ordered, way, kind, keys, base)
                check_answer_is_own(self, ordered, way, kind, keys, base)


class SpelledBase(unittest.TestCase):
    def test_texts_are_spelled_by_their_own_base(self):
        keys = ["z", "a", "m", "zz", ""] + ["abcdefghij"[n:] for n in spread(20, 11)]
        for base in BASES:
            self.assertEqual(moves_ahead("text", keys, base), moves_ahead("text", keys, 2))

    def test_numbers_by_the_base_that_is_handed_in(self):
        keys = [1023, 0, 512, 7]
        self.assertEqual(moves_ahead("number", keys, 2)[0], ("last", 40))
        self.assertEqual(moves_ahead("number", keys, 64)[0], ("last", 8))


if __name__ == "__main__":
    unittest.main()
