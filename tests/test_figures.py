"""Point 3, and point 2 of figures.py."""

import unittest

from figuresort.errors import BadOrder, BadRow, NotRising, SortError, TooGreat
from figuresort.figures import figure_at, figures, many_figures, number_of
from helper import BASES, frozen, spread

EIGHTEEN = 10 ** 18 - 1


def numbers_for(base):
    """Ordinary numbers and edges: round each power, from 2 ** 53 on, of eighteen figures."""
    told = list(range(0, 200))
    power = 1
    while power <= EIGHTEEN:
        told += [power - 1, power, power + 1]
        power *= base
    told += [2 ** 53 - 1, 2 ** 53, 2 ** 53 + 1, 2 ** 53 + 2, 10 ** 17, EIGHTEEN - 1, EIGHTEEN]
    return told + spread(60, 10 ** 18, base)


def least_many(n, base):
    """As the document says it: the least many with n below the base to the power many."""
    many = 0
    while n >= base ** many:
        many += 1
    return many


class ManyFigures(unittest.TestCase):
    def test_least_many(self):
        for base in range(2, 65):
            for n in numbers_for(base):
                self.assertEqual(frozen(many_figures(n, base)), frozen(least_many(n, base)), (n, base))

    def test_round_powers(self):
        for base in BASES:
            for many in range(1, 19):
                self.assertEqual(many_figures(base ** many - 1, base), many)
                self.assertEqual(many_figures(base ** many, base), many + 1)
                self.assertEqual(many_figures(base ** many + 1, base), many + 1)

    def test_plain_ones(self):
        self.assertEqual(many_figures(0, 10), 0)
        self.assertEqual(many_figures(0, 2), 0)
        self.assertEqual(many_figures(1, 64), 1)
        self.assertEqual(many_figures(9, 10), 1)
        self.assertEqual(many_figures(10, 10), 2)
        self.assertEqual(many_figures(EIGHTEEN, 10), 18)
        self.assertEqual(many_figures(2 ** 53, 2), 54)


class Figures(unittest.TestCase):
    def test_plain_ones(self):
        self.assertEqual(frozen(figures(305, 10, 3)), frozen((3, 0, 5)))
        self.assertEqual(frozen(figures(305, 10, 5)), frozen((0, 0, 3, 0, 5)))
        self.assertEqual(frozen(figures(6, 2, 3)), frozen((1, 1, 0)))
        self.assertEqual(frozen(figures(255, 16, 2)), frozen((15, 15)))
        self.assertEqual(frozen(figures(64, 64, 2)), frozen((1, 0)))
        self.assertEqual(frozen(figures(5, 3, 2)), frozen((1, 2)))

    def test_nought(self):
        self.assertEqual(frozen(figures(0, 10, 0)), frozen(()))
        self.assertEqual(frozen(figures(0, 2, 1)), frozen((0,)))
        self.assertEqual(frozen(figures(0, 64, 120)), frozen((0,) * 120))

    def test_each_is_below_the_base_and_they_make_the_number(self):
        for base in range(2, 65):
            for n in numbers_for(base):
                least = least_many(n, base)
                for many in (least, least + 1, least + 7):
                    told = figures(n, base, many)
                    self.assertIs(type(told), tuple)
                    self.assertEqual(len(told), many)
                    self.assertTrue(all(type(figure) is int and 0 <= figure < base for figure in told))
                    worth = [base ** (many - 1 - place) for place in range(many)]
                    self.assertEqual(sum(f * w for f, w in zip(told, worth)), n)

    def test_more_figures_are_noughts_ahead(self):
        for base in BASES:
            for n in numbers_for(base):
                least = least_many(n, base)
                self.assertEqual(figures(n, base, least + 3), (0, 0, 0) + figures(n, base, least))


class Refusal(unittest.TestCase):
    def test_just_where_more_are_needed(self):
        for base in range(2, 65):
            for n in numbers_for(base):
                least = least_many(n, base)
                self.assertEqual(len(figures(n, base, least)), least)
                for many in {least - 1, least // 2, 0} - {least, -1}:
                    with self.assertRaises(TooGreat):
                        figures(n, base, many)

    def test_no_figures_at_all(self):
        with self.assertRaises(TooGreat):
            figures(1, 10, 0)

    def test_its_class(self):
        with self.assertRaises(SortError) as caught:
            figures(1000, 10, 3)
        self.assertIs(type(caught.exception), TooGreat)
        self.assertIsInstance(caught.exception, ValueError)
        for other in (BadOrder, NotRising, BadRow):
            self.assertNotIsInstance(caught.exception, other)

    def test_changes_nothing(self):
        before = figures(1000, 10, 4)
        with self.assertRaises(TooGreat):
            figures(1000, 10, 3)
        self.assertEqual(figures(1000, 10, 4), before)

    def test_what_was_told_whatever_its_size(self):
        row = figures(2 ** 59 - 1, 2, 59)
        for _ in range(3):
            great = number_of(row, 64)
            row = figures(great, 2, many_figures(great, 2))
        great = number_of(row, 64)
        self.assertGreater(great, 10 ** 5000)
        many = many_figures(great, 64)
        self.assertEqual(figures(great, 64, many), row[row.index(1):])
        with self.assertRaises(TooGreat):
            figures(great, 64, many - 1)


class NumberOf(unittest.TestCase):
    def test_plain_ones(self):
        self.assertEqual(frozen(number_of((3, 0, 5), 10)), frozen(305))
        self.assertEqual(number_of((1, 1, 0), 2), 6)
        self.assertEqual(number_of((15, 15), 16), 255)
        self.assertEqual(number_of((63, 0, 1), 64), 63 * 4096 + 1)

    def test_none(self):
        for base in BASES:
            self.assertEqual(frozen(number_of((), base)), frozen(0))
            self.assertEqual(frozen(number_of([], base)), frozen(0))

    def test_noughts_ahead(self):
        self.assertEqual(number_of((0, 0, 0), 10), 0)
        self.assertEqual(number_of((0, 0, 1, 2), 10), 12)
        self.assertEqual(number_of((0,) * 119 + (1,), 64), 1)

    def test_undoes_figures(self):
        for base in range(2, 65):
            for n in numbers_for(base):
                many = least_many(n, base)
                self.assertEqual(frozen(number_of(figures(n, base, many), base)), frozen(n))
                self.assertEqual(number_of(figures(n, base, many + 5), base), n)

    def test_any_row(self):
        for base in BASES:
            for many in (1, 2, 17, 120):
                row = tuple(spread(many, base, many))
                self.assertEqual(number_of(row, base), sum(f * base ** k for k, f in enumerate(row[::-1])))
                self.assertEqual(figures(number_of(row, base), base, many), row)

    def test_list_as_tuple_and_unchanged(self):
        for base in BASES:
            row = [0, base - 1, 1, 0]
            told = number_of(row, base)
            self.assertEqual(row, [0, base - 1, 1, 0])
            self.assertEqual(frozen(number_of(tuple(row), base)), frozen(told))
            row[0] = 1
            self.assertEqual(number_of(row, base), told + base ** 3)


class FigureAt(unittest.TestCase):
    def test_plain_ones(self):
        self.assertEqual([figure_at(305, 10, k) for k in range(5)], [5, 0, 3, 0, 0])
        self.assertEqual([figure_at(6, 2, k) for k in range(4)], [0, 1, 1, 0])
        self.assertEqual([figure_at(4097, 64, k) for k in range(3)], [1, 0, 1])

    def test_nought(self):
        for k in (0, 1, 200):
            self.assertEqual(frozen(figure_at(0, 10, k)), frozen(0))

    def test_as_figures_from_the_lowest_on(self):
        for base in range(2, 65):
            for n in numbers_for(base):
                told = [figure_at(n, base, k) for k in range(least_many(n, base))]
                self.assertEqual(frozen(tuple(told[::-1])), frozen(figures(n, base, len(told))))

    def test_beyond_all(self):
        for base in BASES:
            for n in numbers_for(base):
                many = least_many(n, base)
                for k in (many, many + 1, 200, EIGHTEEN):
                    self.assertEqual(frozen(figure_at(n, base, k)), frozen(0))


class SameAgain(unittest.TestCase):
    def test_the_same_question_is_told_the_same(self):
        for base in BASES:
            for n in numbers_for(base):
                many = many_figures(n, base)
                self.assertEqual(many_figures(n, base), many)
                self.assertEqual(figures(n, base, many), figures(n, base, many))
                self.assertEqual(figure_at(n, base, 1), figure_at(n, base, 1))


if __name__ == "__main__":
    unittest.main()
