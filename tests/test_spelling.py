"""Point 4, and point 2 of spelling.py."""

import copy
import unittest
from fractions import Fraction
from math import gcd, lcm

from figuresort.spelling import least_bottom, spelled
from helper import BASES, both_kinds, frozen, spread

EIGHTEEN = 10 ** 18 - 1
ALL_BOTTOMS = tuple(range(1, 61))

NUMBERS = (
    [0], [7], [-7], [EIGHTEEN], [5, 5, 5], [-3] * 200, [0, 0],
    [0, 1], [-1, 0], [-1, 1], [1, 0, -1], [9, 10, 11], [-10, -9, -11],
    [2 ** 53, 2 ** 53 + 1, 2 ** 53 + 2, 2 ** 53 - 1], [-2 ** 53, -2 ** 53 - 1],
    [EIGHTEEN, -EIGHTEEN], [EIGHTEEN, EIGHTEEN - 1], [EIGHTEEN, 0, -EIGHTEEN, 1, -1],
    [12, -5, 33, 12, 0, -5], list(range(-100, 100)), list(range(100, -100, -1)),
    [n - 50 for n in spread(200, 100)], [n - 5 * 10 ** 17 for n in spread(200, 10 ** 18)],
)

PARTS = (
    [(0, 1)], [(1, 2)], [(-7, 60)], [(1, 3), (1, 3)], [(-5, 7)] * 200,
    [(1, 2), (1, 3), (2, 3), (0, 1), (-1, 2), (1, 1)],
    [(3, 1), (-3, 1), (0, 1)], [(1, 60), (1, 59), (1, 58)], [(29, 59), (30, 59), (28, 57), (1, 2)],
    [(1, bottom) for bottom in ALL_BOTTOMS], [(-1, bottom) for bottom in ALL_BOTTOMS],
    [(bottom - 1, bottom) for bottom in ALL_BOTTOMS], [(bottom + 1, bottom) for bottom in ALL_BOTTOMS],
    [(EIGHTEEN, 1), (-EIGHTEEN, 2), (EIGHTEEN, 2), (EIGHTEEN - 1, 1), (EIGHTEEN, 59)],
    [(2 ** 53 + 1, 4), (2 ** 53 + 3, 4), (2 ** 53 - 1, 4), (2 ** 51, 1)],
)

TEXTS = (
    [""], ["", ""], ["a"], ["z"], ["a", ""], ["", "a", "aa", "aaa"], ["aaa", "aa", "a", ""],
    ["ab", "a", "abc", "b", "ba"], ["zz", "z", "za", "az"], ["same"] * 200,
    ["a" * 20, "a" * 19, "z" * 20, "a" * 19 + "b"], ["abcdefghijklmnopqrst", "klmnopqrstuvwxyzabcd"],
    list("qwertyuiopasdfghjklzxcvbnm"), ["pear", "fig", "apple", "figs", "", "pear", "date"],
)


def many_texts():
    """Two hundred texts, many of them beginning one another or alike."""
    lengths = spread(200, 21, 3)
    return ["".join("abz"[n] for n in spread(length, 3, at % 7)) for at, length in enumerate(lengths)]


def many_parts():
    """Two hundred fractions in lowest terms of all bottoms, either side of nought."""
    told = []
    for at, top in enumerate(spread(200, 400, 5)):
        part = Fraction(top - 200, at % 60 + 1)
        told.append((part.numerator, part.denominator))
    return told


def size(part):
    return Fraction(part[0], part[1])


def by_figures(n, base, many):
    """The figures of a number as the document says, each worth the base times the next."""
    return tuple(n // base ** place % base for place in range(many - 1, -1, -1))


def rows_of_numbers(numbers, base):
    """The rows that the document asks for."""
    if not numbers:
        return []
    many = 0
    while max(numbers) - min(numbers) >= base ** many:
        many += 1
    return [by_figures(n - min(numbers), base, many) for n in numbers]


class Asked(unittest.TestCase):
    """Checks that hold of each kind."""

    def check_rows_rise_as_keys(self, rows, sizes):
        for row, one in zip(rows, sizes):
            for other_row, other in zip(rows, sizes):
                self.assertEqual(row < other_row, one < other)
                self.assertEqual(row == other_row, one == other)

    def check_form(self, told, base, many_keys):
        self.assertIs(type(told), tuple)
        self.assertEqual(len(told), 2)
        self.assertEqual(frozen(told[0]), frozen(base))
        rows = told[1]
        self.assertIs(type(rows), list)
        self.assertEqual(len(rows), many_keys)
        self.assertLessEqual(len({len(row) for row in rows}), 1)
        for row in rows:
            self.assertIs(type(row), tuple)
            self.assertTrue(all(type(figure) is int and 0 <= figure < base for figure in row))

    def check_own(self, kind, keys, base):
        """What is handed in stays, what is told is the asker's own."""
        before = copy.deepcopy(keys)
        first = spelled(kind, keys, base)
        kept = copy.deepcopy(first)
        self.assertEqual(frozen(keys), frozen(before))
        second = spelled(kind, keys, base)
        self.assertEqual(frozen(second), frozen(kept))
        self.assertIsNot(first[1], second[1])
        self.assertIsNot(first[1], keys)
        first[1].append("changed")
        first[1][0] = None
        self.assertEqual(frozen(second), frozen(kept))
        self.assertEqual(frozen(keys), frozen(before))
        self.assertEqual(frozen(spelled(kind, keys, base)), frozen(kept))

    def check_handed_in_is_not_kept(self, kind, keys, base):
        handed = list(keys)
        told = spelled(kind, handed, base)
        kept = copy.deepcopy(told)
        handed.clear()
        self.assertEqual(frozen(told), frozen(kept))
        self.assertEqual(spelled(kind, handed, base)[1], [])


class Numbers(Asked):
    def test_plain_ones(self):
        told = spelled("number", [12, -5, 33, 12], 10)
        self.assertEqual(frozen(told), frozen((10, [(1, 7), (0, 0), (3, 8), (1, 7)])))
        self.assertEqual(spelled("number", [-1, 0, 1], 2), (2, [(0, 0), (0, 1), (1, 0)]))
        self.assertEqual(spelled("number", [100, 163], 64), (64, [(0,), (63,)]))
        self.assertEqual(spelled("number", [100, 164], 64), (64, [(0, 0), (1, 0)]))

    def test_without_columns(self):
        for base in BASES:
            self.assertEqual(frozen(spelled("number", [], base)), frozen((base, [])))
            for key in (0, 5, -5, EIGHTEEN):
                self.assertEqual(frozen(spelled("number", [key], base)), frozen((base, [()])))
                self.assertEqual(frozen(spelled("number", [key] * 200, base)), frozen((base, [()] * 200)))

    def test_as_told(self):
        for base in range(2, 65):
            for keys in NUMBERS:
                told = spelled("number", keys, base)
                self.check_form(told, base, len(keys))
                self.assertEqual(told[1], rows_of_numbers(keys, base))

    def test_as_few_columns_as_go(self):
        for base in BASES:
            for power in range(1, 10):
                for least in (0, -3, 10 ** 17):
                    rows = spelled("number", [least, least + base ** power - 1], base)[1]
                    self.assertEqual([len(row) for row in rows], [power, power])
                    rows = spelled("number", [least + base ** power, least], base)[1]
                    self.assertEqual([len(row) for row in rows], [power + 1, power + 1])

    def test_rise_as_keys(self):
        for base in (2, 3, 10, 16, 64):
            for keys in NUMBERS:
                self.check_rows_rise_as_keys(spelled("number", keys, base)[1], keys)

    def test_list_as_tuple(self):
        for base in BASES:
            for keys in NUMBERS:
                told = frozen(spelled("number", list(keys), base))
                self.assertEqual(frozen(spelled("number", tuple(keys), base)), told)
        self.assertEqual(frozen(spelled("number", (), 10)), frozen((10, [])))

    def test_own(self):
        for keys in NUMBERS:
            self.check_own("number", keys, 10)
            self.check_handed_in_is_not_kept("number", keys, 3)

    def test_no_keys_told_anew(self):
        for kind in ("number", "part", "text"):
            first = spelled(kind, [], 10)[1]
            first.append(())
            self.assertEqual(spelled(kind, [], 10)[1], [])


class LeastBottom(unittest.TestCase):
    def test_plain_ones(self):
        self.assertEqual(frozen(least_bottom([(1, 2), (1, 3)])), frozen(6))
        self.assertEqual(least_bottom([(1, 4), (1, 6)]), 12)
        self.assertEqual(least_bottom([(5, 6), (1, 4)]), 12)
        self.assertEqual(least_bottom([(1, 60), (7, 30), (1, 2)]), 60)

    def test_none(self):
        self.assertEqual(frozen(least_bottom([])), frozen(1))
        self.assertEqual(frozen(least_bottom(())), frozen(1))

    def test_whole_ones(self):
        self.assertEqual(least_bottom([(0, 1)]), 1)
        self.assertEqual(least_bottom([(5, 1), (-5, 1), (EIGHTEEN, 1)]), 1)

    def test_all_pairs_of_bottoms(self):
        for one in ALL_BOTTOMS:
            self.assertEqual(least_bottom([(1, one)]), one)
            self.assertEqual(least_bottom([(-1, one)]), one)
            for other in ALL_BOTTOMS:
                self.assertEqual(least_bottom([(1, one), (1, other)]), lcm(one, other))

    def test_many(self):
        for parts in PARTS + (many_parts(),):
            told = least_bottom(parts)
            self.assertEqual(frozen(told), frozen(lcm(*[bottom for _, bottom in parts])))

    def test_list_as_tuple_and_unchanged(self):
        for parts in PARTS:
            for handed in both_kinds(parts):
                before = copy.deepcopy(handed)
                self.assertEqual(least_bottom(handed), least_bottom(parts))
                self.assertEqual(frozen(handed), frozen(before))


class Parts(Asked):
    def test_plain_ones(self):
        told = spelled("part", [(1, 2), (1, 3), (-1, 1)], 10)
        self.assertEqual(frozen(told), frozen((10, [(9,), (8,), (0,)])))
        told = spelled("part", [(5, 2), (-1, 4), (1, 1)], 2)
        self.assertEqual(told, (2, [(1, 0, 1, 1), (0, 0, 0, 0), (0, 1, 0, 1)]))

    def test_handed_in_is_in_lowest_terms(self):
        for parts in PARTS + (many_parts(),):
            self.assertTrue(all(gcd(top, bottom) == 1 and 1 <= bottom <= 60 for top, bottom in parts))

    def test_without_columns(self):
        for base in BASES:
            self.assertEqual(frozen(spelled("part", [], base)), frozen((base, [])))
            for key in ((0, 1), (-5, 7), (EIGHTEEN, 59)):
                self.assertEqual(frozen(spelled("part", [key], base)), frozen((base, [()])))
                self.assertEqual(frozen(spelled("part", [key] * 200, base)), frozen((base, [()] * 200)))

    def test_as_told(self):
        for base in range(2, 65):
            for keys in PARTS + (many_parts(),):
                told = spelled("part", keys, base)
                self.check_form(told, base, len(keys))
                whole = [size(key) * lcm(*[bottom for _, bottom in keys]) for key in keys]
                self.assertTrue(all(number.denominator == 1 for number in whole))
                self.assertEqual(told[1], rows_of_numbers([number.numerator for number in whole], base))

    def test_bottom_one_is_as_number(self):
        for base in BASES:
            for keys in NUMBERS:
                told = spelled("part", [(key, 1) for key in keys], base)
                self.assertEqual(frozen(told), frozen(spelled("number", keys, base)))

    def test_rise_as_keys(self):
        for base in (2, 3, 10, 16, 64):
            for keys in PARTS + (many_parts(),):
                self.check_rows_rise_as_keys(spelled("part", keys, base)[1], [size(key) for key in keys])

    def test_list_as_tuple(self):
        for keys in PARTS + (many_parts(),):
            told = frozen(spelled("part", keys, 10))
            for handed in both_kinds(keys):
                before = copy.deepcopy(handed)
                self.assertEqual(frozen(spelled("part", handed, 10)), told)
                self.assertEqual(frozen(handed), frozen(before))

    def test_own(self):
        for keys in PARTS:
            self.check_own("part", keys, 10)
            self.check_handed_in_is_not_kept("part", keys, 3)


class Texts(Asked):
    def test_plain_ones(self):
        told = spelled("text", ["ab", "", "z"], 10)
        self.assertEqual(frozen(told), frozen((27, [(1, 2), (0, 0), (26, 0)])))
        letters = "abcdefghijklmnopqrstuvwxyz"
        self.assertEqual(spelled("text", list(letters), 2)[1], [(n,) for n in range(1, 27)])

    def test_base_is_27_whatever_is_handed_in(self):
        for base in range(2, 65):
            for keys in TEXTS + ([],):
                self.assertEqual(frozen(spelled("text", keys, base)), frozen(spelled("text", keys, 27)))
                self.assertEqual(frozen(spelled("text", keys, base)[0]), frozen(27))

    def test_columns_as_the_longest(self):
        self.assertEqual(frozen(spelled("text", [], 10)), frozen((27, [])))
        self.assertEqual(frozen(spelled("text", [""], 10)), frozen((27, [()])))
        self.assertEqual(frozen(spelled("text", ["", ""], 10)), frozen((27, [(), ()])))
        self.assertEqual(spelled("text", ["aa", "aa"], 10), (27, [(1, 1), (1, 1)]))
        self.assertEqual(spelled("text", ["z" * 20, ""], 10), (27, [(26,) * 20, (0,) * 20]))
        for keys in TEXTS + (many_texts(),):
            told = spelled("text", keys, 10)
            self.check_form(told, 27, len(keys))
            self.assertEqual({len(row) for row in told[1]}, {max(len(key) for key in keys)})

    def test_letters_then_noughts(self):
        for keys in TEXTS + (many_texts(),):
            for key, row in zip(keys, spelled("text", keys, 64)[1]):
                self.assertEqual(row[:len(key)], tuple(" abcdefghijklmnopqrstuvwxyz".index(c) for c in key))
                self.assertEqual(set(row[len(key):]) - {0}, set())

    def test_rise_as_keys(self):
        for keys in TEXTS + (many_texts(),):
            self.check_rows_rise_as_keys(spelled("text", keys, 10)[1], keys)

    def test_list_as_tuple(self):
        for keys in TEXTS + (many_texts(), []):
            self.assertEqual(frozen(spelled("text", tuple(keys), 10)), frozen(spelled("text", list(keys), 10)))

    def test_own(self):
        for keys in TEXTS:
            self.check_own("text", keys, 10)
            self.check_handed_in_is_not_kept("text", keys, 3)


if __name__ == "__main__":
    unittest.main()
