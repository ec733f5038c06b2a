"""Point 6, and points 1 and 2 of orders.py."""

import copy
import itertools
import unittest

from figuresort.errors import BadOrder, SortError
from figuresort.orders import after, back_of, is_order, put, rings, shows_order, told_order
from helper import (
    NO_ORDERS, TWENTY_ONE, all_orders, both_kinds, check_answer_is_own, check_list_as_tuple, deep_thing, frozen,
    lists_in, order_samples, plain_order, row_samples, scattered_order, spoil, turned,
)

ROWS = row_samples()
ORDERS = order_samples()


class IsOrder(unittest.TestCase):
    def test_orders(self):
        for order in ORDERS:
            self.assertIs(is_order(order), True)
            self.assertIs(is_order(tuple(order)), True)

    def test_the_order_of_no_things(self):
        self.assertIs(is_order([]), True)
        self.assertIs(is_order(()), True)

    def test_what_is_none(self):
        for thing in NO_ORDERS:
            for handed in (thing, turned(thing, list), turned(thing, tuple)):
                self.assertIs(is_order(handed), False, handed)

    def test_all_short_rows(self):
        parts = (0, 1, 2, -1, True, False, None, "0", "", [], (), [0], (1,))
        for many in range(4):
            for row in itertools.product(parts, repeat=many):
                numbers = [part for part in row if type(part) is int]
                right = len(numbers) == many and sorted(numbers) == list(range(many))
                self.assertIs(is_order(list(row)), right, row)
                self.assertIs(is_order(row), right, row)

    def test_numbers_written_as_true_and_false(self):
        for order in ORDERS[:40]:
            for at, place in enumerate(order):
                if place < 2:
                    other = list(order)
                    other[at] = bool(place)
                    self.assertIs(is_order(other), False)

    def test_things_of_many_levels(self):
        for kind in (list, tuple):
            self.assertIs(is_order(deep_thing(kind, 5000)), False)

    def test_unchanged(self):
        for thing in NO_ORDERS + tuple(ORDERS[:40]):
            before = frozen(thing)
            self.assertEqual(is_order(thing), is_order(thing))
            self.assertEqual(frozen(thing), before)


class Refused(unittest.TestCase):
    def check_refused(self, deed, *handed):
        kept = copy.deepcopy(handed)
        with self.assertRaises(BadOrder) as caught:
            deed(*handed)
        self.assertIs(type(caught.exception), BadOrder)
        self.assertEqual(BadOrder.__bases__, (SortError,))
        self.assertEqual(frozen(handed), frozen(kept))

    def test_no_order(self):
        for thing in NO_ORDERS:
            many = len(thing) if type(thing) in (list, tuple) else 1
            for handed in (thing, turned(thing, list), turned(thing, tuple)):
                self.check_refused(put, ["x"] * many, handed)
                self.check_refused(back_of, handed)
                self.check_refused(after, handed, list(range(many)))
                self.check_refused(after, list(range(many)), handed)
                self.check_refused(after, handed, handed)
                self.check_refused(put, [], handed)
                self.check_refused(after, [], handed)
                self.check_refused(after, handed, ())

    def test_not_of_as_many(self):
        for many in (0, 1, 2, 3, 7, 199, 200):
            for other in (0, 1, 2, 3, 7, 199, 200):
                if many != other:
                    for kind in (list, tuple):
                        self.check_refused(put, kind("x" * many), kind(range(other)))
                        self.check_refused(after, kind(range(many)), kind(range(other)))

    def test_not_refused_else(self):
        for many in (0, 1, 2, 3, 7, 199, 200):
            self.assertEqual(len(put(["x"] * many, list(range(many)))), many)
            self.assertEqual(len(back_of(list(range(many)))), many)
            self.assertEqual(len(after(list(range(many)), list(range(many)))), many)


class Put(unittest.TestCase):
    def test_plain_ones(self):
        self.assertEqual(frozen(put(["a", "b", "c"], [2, 0, 1])), frozen(["c", "a", "b"]))
        self.assertEqual(frozen(put((5, 6), (1, 0))), frozen([6, 5]))

    def test_none_and_one(self):
        for nothing in ([], ()):
            self.assertEqual(frozen(put(nothing, [])), frozen([]))
            self.assertEqual(frozen(put(nothing, ())), frozen([]))
        self.assertEqual(frozen(put([None], [0])), frozen([None]))

    def test_things_as_they_are(self):
        things = [1, True, "1", None, (1,), [1], [], (), [[1], (2, [3])], ([4], ([5],)), False, 0, "", -TWENTY_ONE]
        for start in range(1, 6):
            order = scattered_order(len(things), start)
            told = put(things, order)
            self.assertEqual(frozen(told), frozen([things[place] for place in order]))
            self.assertEqual(frozen(put(tuple(things), tuple(order))), frozen(told))

    def test_rows_stay_lists_or_tuples(self):
        self.assertEqual(frozen(put([[1, 2], [3, 4]], [1, 0])), frozen([[3, 4], [1, 2]]))
        self.assertEqual(frozen(put([(1, 2), [3, 4]], [1, 0])), frozen([[3, 4], (1, 2)]))

    def test_as_told(self):
        for order in ORDERS:
            things = [f"thing {at}" for at in range(len(order))]
            self.assertEqual(put(things, order), [f"thing {place}" for place in order])

    def test_lists_that_are_told_are_the_askers_own(self):
        twice = [1]
        things = [twice, twice, (twice, [twice])]
        told = put(things, [2, 1, 0])
        found = lists_in(told) + [things, twice]
        self.assertEqual(len({id(one) for one in found}), len(found))
        spoil(told)
        self.assertEqual(frozen(things), frozen([[1], [1], ([1], [[1]])]))

    def test_things_of_many_levels(self):
        for kind in (list, tuple):
            told = put([deep_thing(kind, 5000), 1], [1, 0])
            self.assertEqual(told[0], 1)
            levels = 0
            thing = told[1]
            while len(thing) > 0:
                self.assertIs(type(thing), kind)
                thing = thing[0]
                levels += 1
            self.assertEqual((levels, thing), (5000, kind()))

    def test_own(self):
        for order in ORDERS:
            check_answer_is_own(self, put, [f"thing {at}" for at in range(len(order))], order)
            check_answer_is_own(self, put, [[at, (at, [])] for at in range(len(order))], order)


class BackOf(unittest.TestCase):
    def test_plain_ones(self):
        self.assertEqual(frozen(back_of([2, 0, 1])), frozen([1, 2, 0]))
        self.assertEqual(frozen(back_of([])), frozen([]))
        self.assertEqual(frozen(back_of(())), frozen([]))
        self.assertEqual(frozen(back_of([0])), frozen([0]))

    def test_leads_back(self):
        for order in ORDERS:
            things = [f"thing {at}" for at in range(len(order))]
            back = back_of(order)
            self.assertIs(is_order(back), True)
            self.assertEqual(put(put(things, order), back), things)
            self.assertEqual(put(put(things, back), order), things)
            self.assertEqual(back_of(back), order)

    def test_list_as_tuple_and_own(self):
        for order in ORDERS:
            check_list_as_tuple(self, back_of, order)
            check_answer_is_own(self, back_of, order)


def pairs_of_orders():
    """Pairs of orders of as many things."""
    told = [(one, other) for one in all_orders(4) for other in all_orders(4) if len(one) == len(other)]
    told += [(scattered_order(many, 3), scattered_order(many, 4)) for many in (7, 30, 120, 199, 200)]
    return told


class After(unittest.TestCase):
    def test_plain_ones(self):
        self.assertEqual(frozen(after([1, 2, 0], [0, 2, 1])), frozen([1, 0, 2]))
        self.assertEqual(frozen(after([0, 2, 1], [1, 2, 0])), frozen([2, 1, 0]))
        self.assertEqual(frozen(after([], ())), frozen([]))
        self.assertEqual(frozen(after((0,), [0])), frozen([0]))

    def test_by_one_and_then_by_other(self):
        for one, other in pairs_of_orders():
            things = [f"thing {at}" for at in range(len(one))]
            both = after(one, other)
            self.assertIs(is_order(both), True)
            self.assertEqual(put(things, both), put(put(things, one), other))

    def test_after_the_way_back_all_stands_as_it_stood(self):
        for order in ORDERS:
            self.assertEqual(after(order, back_of(order)), list(range(len(order))))
            self.assertEqual(after(back_of(order), order), list(range(len(order))))

    def test_list_as_tuple_and_own(self):
        for one, other in pairs_of_orders():
            check_list_as_tuple(self, after, one, other)
            check_answer_is_own(self, after, one, other)
        same = [1, 0, 2]
        self.assertEqual(after(same, same), [0, 1, 2])
        self.assertEqual(same, [1, 0, 2])


class Rings(unittest.TestCase):
    def test_plain_ones(self):
        self.assertEqual(frozen(rings([2, 0, 1])), frozen([[0, 2, 1]]))
        self.assertEqual(frozen(rings([1, 2, 0])), frozen([[0, 1, 2]]))
        self.assertEqual(frozen(rings([1, 0, 2, 4, 3])), frozen([[0, 1], [3, 4]]))
        self.assertEqual(frozen(rings([0, 3, 4, 1, 5, 2])), frozen([[1, 3], [2, 4, 5]]))

    def test_no_rings(self):
        for many in (0, 1, 2, 200):
            self.assertEqual(frozen(rings(list(range(many)))), frozen([]))
            self.assertEqual(frozen(rings(tuple(range(many)))), frozen([]))

    def test_as_told(self):
        for order in ORDERS:
            told = rings(order)
            self.assertIs(type(told), list)
            for ring in told:
                self.assertIs(type(ring), list)
                self.assertTrue(all(type(place) is int for place in ring))
                self.assertGreaterEqual(len(ring), 2)
                self.assertEqual(ring[0], min(ring))
                self.assertEqual(ring[1:] + ring[:1], [order[place] for place in ring])
            firsts = [ring[0] for ring in told]
            self.assertEqual(firsts, sorted(set(firsts)))
            moved = [place for place in range(len(order)) if order[place] != place]
            self.assertEqual(sorted(place for ring in told for place in ring), moved)

    def test_list_as_tuple_and_own(self):
        for order in ORDERS:
            check_list_as_tuple(self, rings, order)
            check_answer_is_own(self, rings, order)


class ToldOrder(unittest.TestCase):
    def test_plain_ones(self):
        self.assertEqual(frozen(told_order([(1, 0), (0, 1), (1, 0), (0, 0)])), frozen([3, 1, 0, 2]))

    def test_no_rows_no_columns_one_row_and_rows_alike(self):
        for rows in ([], (), [()], [[]], [()] * 200, [(1, 2)], [(63,) * 120] * 200):
            self.assertEqual(frozen(told_order(rows)), frozen(list(range(len(rows)))))

    def test_as_told(self):
        for rows, _ in ROWS:
            self.assertEqual(frozen(told_order(rows)), frozen(plain_order(rows)))

    def test_lists_and_tuples_side_by_side(self):
        self.assertEqual(told_order([[1, 0], (0, 1), (1, 0), [0, 0], [1, 0]]), [3, 1, 0, 2, 4])
        self.assertEqual(told_order([[], (), []]), [0, 1, 2])

    def test_list_as_tuple_and_own(self):
        for rows, _ in ROWS:
            check_list_as_tuple(self, told_order, rows)
            check_answer_is_own(self, told_order, rows)


class ShowsOrder(unittest.TestCase):
    def test_plain_ones(self):
        rows = [(1, 0), (0, 1), (1, 0), (0, 0)]
        self.assertIs(shows_order(rows, [3, 1, 0, 2]), True)
        self.assertIs(shows_order(rows, (3, 1, 0, 2)), True)
        self.assertIs(shows_order(rows, [3, 1, 2, 0]), False)
        self.assertIs(shows_order(rows, [1, 3, 0, 2]), False)
        self.assertIs(shows_order(rows, [3, 1, 0]), False)
        self.assertIs(shows_order(rows, [3, 1, 0, 2, 4]), False)

    def test_that_order_alone(self):
        for rows in ([], [()], [(0,)], [(1,), (0,)], [(0,), (0,)], [(2,), (0,), (1,)], [(1,), (0,), (1,), (0,)]):
            for order in all_orders(5):
                right = order == plain_order(rows)
                for handed in both_kinds(rows):
                    self.assertIs(shows_order(handed, order), right)
                    self.assertIs(shows_order(handed, tuple(order)), right)

    def test_of_no_rows(self):
        for rows in ([], ()):
            for order in ([], ()):
                self.assertIs(shows_order(rows, order), True)
            for thing in NO_ORDERS + ([0], (0,)):
                self.assertIs(shows_order(rows, thing), False)

    def test_what_is_no_order(self):
        for thing in NO_ORDERS:
            many = len(thing) if type(thing) in (list, tuple) else 1
            for handed in (thing, turned(thing, list), turned(thing, tuple)):
                for rows in ([(at,) for at in range(many)], [()] * many, [(1,), (0,)], [(5, 5)]):
                    self.assertIs(shows_order(rows, handed), False)

    def test_true_and_false_are_no_numbers(self):
        rows = [(1,), (0,)]
        self.assertIs(shows_order(rows, [1, 0]), True)
        for thing in ([True, False], [1, False], [True, 0], (True, False)):
            self.assertIs(shows_order(rows, thing), False)
        self.assertIs(shows_order([(0,)], [False]), False)

    def test_things_of_many_levels(self):
        for kind in (list, tuple):
            self.assertIs(shows_order([(0,)], deep_thing(kind, 5000)), False)

    def test_of_many_rows(self):
        for rows, _ in ROWS:
            order = plain_order(rows)
            self.assertIs(shows_order(rows, order), True)
            if len(rows) > 1:
                self.assertIs(shows_order(rows, order[::-1]), False)
                self.assertIs(shows_order(rows, order[1:] + order[:1]), False)
                self.assertIs(shows_order(rows, order[1:]), False)

    def test_list_as_tuple_and_own(self):
        for rows, _ in ROWS:
            check_list_as_tuple(self, shows_order, rows, plain_order(rows))
            check_answer_is_own(self, shows_order, rows, plain_order(rows))


if __name__ == "__main__":
    unittest.main()
