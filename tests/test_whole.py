"""Points 1 and 2 over the whole program, and the interface."""

import importlib
import inspect
import itertools
import unittest

from figuresort.counts import beginnings, begins, counts, table, tally
from figuresort.desk import run
from figuresort.errors import BadOrder, BadRow, NotRising, SortError, TooGreat
from figuresort.figures import figure_at, figures, many_figures, number_of
from figuresort.firstfirst import ahead_of_first, from_first
from figuresort.heapwalk import HeapWalk, heap_sorted, puts_ahead
from figuresort.lastfirst import ahead_of_last, from_last
from figuresort.merging import Merge, many_merged
from figuresort.orders import after, back_of, is_order, put, rings, shows_order, told_order
from figuresort.pouring import Pour, ahead_of_pours
from figuresort.ringwalk import RingWalk, ring_moves
from figuresort.runs import ahead_of_runs, by_runs, merged, runs
from figuresort.spelling import least_bottom, spelled
from figuresort.ways import cheapest, moves_ahead, ordered
from helper import (
    check_answer_is_own, check_list_as_tuple, columns_of, frozen, key_samples, lists_in, plain_order, row_samples,
    spoil,
)

ROWS = row_samples()
KEYS = key_samples()
WAYS = ("last", "first", "runs")

FUNCTIONS = {
    "figures": ("many_figures(n, base)", "figures(n, base, many)", "number_of(row, base)", "figure_at(n, base, k)"),
    "spelling": ("least_bottom(parts)", "spelled(kind, keys, base)"),
    "counts": (
        "counts(row, base)", "begins(counts)", "table(row, base)", "tally(rows, base)", "beginnings(rows, column)",
    ),
    "orders": (
        "is_order(thing)", "put(things, order)", "back_of(order)", "after(one, other)", "rings(order)",
        "told_order(rows)", "shows_order(rows, order)",
    ),
    "lastfirst": ("from_last(rows, base)", "ahead_of_last(tally)"),
    "firstfirst": ("from_first(rows, base)", "ahead_of_first(lists)"),
    "ringwalk": ("ring_moves(order)",),
    "heapwalk": ("puts_ahead(table)", "heap_sorted(rows, base)"),
    "runs": ("runs(rows)", "merged(one, other)", "by_runs(rows)", "ahead_of_runs(lengths)"),
    "pouring": ("ahead_of_pours(lengths)",),
    "merging": ("many_merged(lists)",),
    "ways": ("moves_ahead(kind, keys, base)", "cheapest(kind, keys, base)", "ordered(way, kind, keys, base)"),
    "desk": ("run(text)",),
}

CLASSES = {
    RingWalk: ("(things, order)", "step", "row", "hand", "left"),
    HeapWalk: ("(row, base)", "step", "row", "hand", "puts"),
    Pour: ("()", "pour", "heaps", "order", "rows", "moves"),
    Merge: ("(lists)", "next", "left"),
}


def all_beginnings(rows):
    return [beginnings(rows, column) for column in range(columns_of(rows) + 1)]


def in_pourings(rows):
    """The rows, parted into pourings of one, two, three and so on."""
    told = []
    at = 0
    while at < len(rows):
        told.append(rows[at:at + len(told) + 1])
        at += len(told)
    return told


def poured(pourings):
    pour = Pour()
    for rows in pourings:
        pour.pour(rows)
    return (pour.heaps(), pour.order(), pour.rows(), pour.moves())


def ring_walked(things, order):
    """All that a RingWalk tells from its first step to its last."""
    walk = RingWalk(things, order)
    told = [(None, walk.row(), walk.hand(), walk.left())]
    for _ in range(walk.left() + 1):
        told.append((walk.step(), walk.row(), walk.hand(), walk.left()))
    return told


def heap_walked(row, base):
    """All that a HeapWalk tells from its first step to its last."""
    walk = HeapWalk(row, base)
    told = [(None, walk.row(), walk.hand(), walk.puts())]
    while len(told) < 2 or told[-1][0] is not None:
        told.append((walk.step(), walk.row(), walk.hand(), walk.puts()))
    return told


def one_by_one(lists):
    """All that a Merge tells from its first row to its last."""
    merge = Merge(lists)
    told = [(None, merge.left())]
    for _ in range(sum(merge.left()) + 1):
        told.append((merge.next(), merge.left()))
    return told


def asks_of(rows, base):
    """Asks (function, what is handed in) of all that the program tells of rows of figures."""
    order = plain_order(rows)
    first_column = [row[0] if row else 0 for row in rows]
    pairs = [(figure, f"thing {at}") for at, figure in enumerate(first_column)]
    half = len(rows) // 2
    halves = [sorted(rows[:half]), sorted(rows[half:])]
    return [
        (counts, first_column, base), (begins, counts(first_column, base)), (table, first_column, base),
        (tally, rows, base), (beginnings, rows, columns_of(rows)), (is_order, order), (put, rows, order),
        (back_of, order), (after, order, back_of(order)), (rings, order), (told_order, rows),
        (shows_order, rows, order), (from_last, rows, base), (ahead_of_last, tally(rows, base)),
        (from_first, rows, base), (ahead_of_first, all_beginnings(rows)), (ring_moves, order),
        (ring_walked, [str(row) for row in rows], order),
        (heap_walked, pairs, base), (puts_ahead, table(first_column, base)), (heap_sorted, rows, base), (runs, rows),
        (merged, halves[0], halves[1]), (by_runs, rows), (ahead_of_runs, runs(rows)), (poured, in_pourings(rows)),
        (ahead_of_pours, [len(part) for part in in_pourings(rows)]), (many_merged, halves), (one_by_one, halves),
    ]


def asks_of_keys(kind, keys, base):
    told = [(spelled, kind, keys, base), (moves_ahead, kind, keys, base), (cheapest, kind, keys, base)]
    told += [(ordered, way, kind, keys, base) for way in WAYS]
    if kind == "part":
        told.append((least_bottom, keys))
    return told


def few_rows():
    """Samples that are short enough to be walked step by step, all told."""
    return [(rows, base) for rows, base in ROWS if len(rows) <= 60 and columns_of(rows) <= 8]


ASKS = [ask for rows, base in few_rows() for ask in asks_of(rows, base)]
ASKS += [ask for kind, keys, base in KEYS if len(keys) <= 60 for ask in asks_of_keys(kind, keys, base)]
ASKS += [
    (many_figures, 305, 10), (figures, 305, 10, 5), (number_of, (0, 3, 0, 5), 10), (figure_at, 305, 10, 2),
    (run, "kind number 10\nrow 3 1 2\npour 1\nsort last\norder\nback\nrings\nahead\nwalk\nputs\npoured\nheaps"),
]


class Interface(unittest.TestCase):
    def test_functions(self):
        for file, told in FUNCTIONS.items():
            module = importlib.import_module(f"figuresort.{file}")
            for form in told:
                name = form.partition("(")[0]
                found = getattr(module, name)
                self.assertEqual(name + str(inspect.signature(found)), form)
                self.assertEqual(found.__module__, f"figuresort.{file}")

    def test_classes(self):
        for found, (form, *methods) in CLASSES.items():
            self.assertEqual(str(inspect.signature(found)), form)
            for name in methods:
                taken = "(self, rows)" if name == "pour" else "(self)"
                self.assertEqual(str(inspect.signature(getattr(found, name))), taken)

    def test_refusals(self):
        self.assertEqual(SortError.__bases__, (ValueError,))
        for refusal in (TooGreat, BadOrder, NotRising, BadRow):
            self.assertEqual(refusal.__bases__, (SortError,))
        for deed in (
            lambda: figures(10, 10, 1), lambda: put([1], []), lambda: RingWalk([1], []), lambda: back_of([1]),
            lambda: after([], [0]), lambda: Merge([[(1,), (0,)]]), lambda: many_merged([[(1,), (0,)]]), lambda: run(""),
        ):
            self.assertRaises(SortError, deed)


class TheSameOrder(unittest.TestCase):
    def test_of_rows(self):
        for rows, base in ROWS:
            orders = [
                told_order(rows), from_last(rows, base)[0], from_first(rows, base)[0], by_runs(rows)[0],
                poured(in_pourings(rows))[1], poured([[row] for row in rows])[1],
            ]
            for order in orders:
                self.assertEqual(order, plain_order(rows))
                self.assertIs(shows_order(rows, order), True)
            numbers = [number for number, _ in many_merged([[row] for row in rows])]
            self.assertEqual(numbers, plain_order(rows))

    def test_of_keys(self):
        for kind, keys, base in KEYS:
            told = [ordered(way, kind, keys, base)[:2] for way in WAYS]
            self.assertEqual(told, [told[0]] * 3)
            self.assertIs(shows_order(spelled(kind, keys, base)[1], told[0][1]), True)

    def test_each_once_and_like_ones_as_they_stood(self):
        for rows, base in ROWS:
            order = from_last(rows, base)[0]
            self.assertEqual(sorted(order), list(range(len(rows))))
            for one, other in zip(order, order[1:]):
                self.assertTrue(rows[one] < rows[other] or rows[one] == rows[other] and one < other)

    def test_rows_rise_by_heaps_too(self):
        for rows, base in ROWS:
            self.assertEqual(heap_sorted(rows, base)[0], put(rows, told_order(rows)))


class AsManyAsToldAhead(unittest.TestCase):
    def test_of_rows(self):
        for rows, base in ROWS:
            steps = from_last(rows, base)[1]
            told = ([column for column, _ in steps], sum(len(order) for _, order in steps))
            self.assertEqual(ahead_of_last(tally(rows, base)), told)
            steps = from_first(rows, base)[1]
            told = (len(steps), sum(last - first for first, last, _ in steps))
            self.assertEqual(ahead_of_first(all_beginnings(rows)), told)
            steps = by_runs(rows)[1]
            self.assertEqual(ahead_of_runs(runs(rows)), (steps, sum(last - first for first, _, last in steps)))
            heaps, _, _, moves = poured(in_pourings(rows))
            self.assertEqual(ahead_of_pours([len(part) for part in in_pourings(rows)]), (heaps, moves))

    def test_of_walks(self):
        for rows, base in ROWS:
            order = told_order(rows)
            walk = RingWalk(list(range(len(rows))), order)
            self.assertEqual(walk.left(), ring_moves(order))
            moves = 0
            while walk.step() is not None:
                moves += 1
            self.assertEqual(moves, ring_moves(order))
            for column in {0, columns_of(rows) - 1} & set(range(columns_of(rows))):
                row = [row[column] for row in rows]
                walk = HeapWalk([(figure, at) for at, figure in enumerate(row)], base)
                while walk.step() is not None:
                    pass
                self.assertEqual(walk.puts(), puts_ahead(table(row, base)))

    def test_of_ways(self):
        for kind, keys, base in KEYS:
            told = moves_ahead(kind, keys, base)
            self.assertEqual(told, [(way, ordered(way, kind, keys, base)[2]) for way in WAYS])


class ThereAndBack(unittest.TestCase):
    def test_an_order_leads_there_and_its_way_back_leads_back(self):
        for rows, base in ROWS:
            order = from_first(rows, base)[0]
            there = put(rows, order)
            self.assertEqual(runs(there), [len(rows)] if rows else [])
            self.assertEqual(put(there, back_of(order)), rows)
            self.assertEqual(after(order, back_of(order)), list(range(len(rows))))
            there = ring_walked(list(range(len(rows))), order)[-1][1]
            self.assertEqual(there, order)
            self.assertEqual(ring_walked(there, back_of(order))[-1][1], list(range(len(rows))))


class OneHand(unittest.TestCase):
    def check_rooms(self, told, things):
        for _, row, hand, _ in told:
            self.assertEqual(row.count(None), 0 if hand is None else 1)
            self.assertEqual(sorted(thing for thing in row + [hand] if thing is not None), sorted(things))

    def test_one_hand_and_no_other_place(self):
        for rows, base in few_rows():
            things = [f"thing {at}" for at in range(len(rows))]
            self.check_rooms(ring_walked(things, told_order(rows)), things)
            for column in range(columns_of(rows)):
                pairs = [(row[column], thing) for row, thing in zip(rows, things)]
                self.check_rooms(heap_walked(pairs, base), pairs)


class HandedInAndTold(unittest.TestCase):
    def test_own(self):
        for ask, *handed in ASKS:
            check_answer_is_own(self, ask, *handed)

    def test_list_as_tuple(self):
        for ask, *handed in ASKS:
            # What put tells stays a list or a tuple, as it was handed in.
            if ask is not put:
                check_list_as_tuple(self, ask, *handed)

    def check_kinds(self, thing):
        if type(thing) in (list, tuple):
            for part in thing:
                self.check_kinds(part)
        else:
            self.assertIn(type(thing), (int, str, bool, type(None)))

    def test_kinds_of_what_is_told(self):
        for ask, *handed in ASKS:
            self.check_kinds(ask(*handed))

    def test_asks_between_change_nothing(self):
        told = [frozen(ask(*handed)) for ask, *handed in ASKS]
        for (ask, *handed), before in zip(reversed(ASKS), reversed(told)):
            self.assertEqual(frozen(ask(*handed)), before)

    def test_objects_don_t_touch_one_another(self):
        rows, order = [(1,), (0,), (1,), (2,)], [1, 0, 2, 3]
        pairs = [(1, "a"), (0, "b")]
        handed = [list(rows), list(order), list(pairs)]
        walks = [RingWalk(rows, order), RingWalk(rows, order), HeapWalk(pairs, 3), HeapWalk(pairs, 3)]
        merges, pours = [Merge([rows[1:]]), Merge([rows[1:]])], [Pour(), Pour()]
        pours[0].pour(rows)
        for at in (0, 2):
            while walks[at].step() is not None:
                pass
        while merges[0].next() is not None:
            pass
        spoil([walks[0].row(), walks[2].row(), merges[0].left(), pours[0].order(), pours[0].rows()])
        self.assertEqual((walks[1].row(), walks[1].hand(), walks[1].left()), (rows, None, 3))
        self.assertEqual((walks[3].row(), walks[3].hand(), walks[3].puts()), (pairs, None, 0))
        self.assertEqual(merges[1].left(), [3])
        self.assertEqual((pours[1].heaps(), pours[1].order(), pours[1].moves()), ([], [], 0))
        self.assertEqual([rows, order, pairs], handed)

    def test_what_was_told_may_be_handed_in_again(self):
        for kind, keys, base in KEYS:
            by, rows = spelled(kind, keys, base)
            order, steps = from_last(rows, by)
            self.assertEqual(told_order(put(rows, order)), list(range(len(rows))))
            for _, between in steps:
                self.assertIs(is_order(between), True)
            self.assertEqual(heap_sorted(heap_sorted(rows, by)[0], by), (put(rows, order), 0))
            told = ordered("first", kind, keys, base)
            self.assertEqual(ordered("runs", kind, told[0], base), (told[0], list(range(len(keys))), 0))
            pairs = many_merged([put(rows, order)] * 2)
            self.assertEqual([row for _, row in pairs][::2], put(rows, order))

    def test_no_two_told_lists_are_one(self):
        for rows, base in few_rows():
            answers = [ask(*handed) for ask, *handed in asks_of(rows, base)]
            answers += [ask(*handed) for ask, *handed in asks_of(rows, base)]
            found = lists_in(answers)
            self.assertEqual(len({id(one) for one in found}), len(found))

    def test_true_and_false_are_no_numbers(self):
        for thing in itertools.product((0, 1, True, False), repeat=2):
            rightly = [type(part) for part in thing] == [int, int] and sorted(thing) == [0, 1]
            self.assertIs(is_order(thing), rightly)
            self.assertIs(shows_order([(1,), (0,)], thing), rightly and thing == (1, 0))
            if not rightly:
                for deed in (put, RingWalk):
                    self.assertRaises(BadOrder, deed, ["a", "b"], thing)
                self.assertRaises(BadOrder, back_of, thing)
                self.assertRaises(BadOrder, after, thing, [0, 1])
                self.assertRaises(BadOrder, after, [0, 1], thing)


if __name__ == "__main__":
    unittest.main()
