"""Points 10 and 11, and points 1 and 2 of heapwalk.py."""

import unittest

from figuresort.counts import table
from figuresort.firstfirst import from_first
from figuresort.heapwalk import HeapWalk, heap_sorted, puts_ahead
from figuresort.lastfirst import from_last
from helper import (
    BASES, check_answer_is_own, check_asks_are_own, check_list_as_tuple, columns_of, deep_rows, frozen, row_samples,
    scattered_rows, shy_rows, spoil, spread, turned,
)

ROWS = row_samples()


def named(figures):
    """Pairs (figure, thing), each thing another one."""
    return [(figure, f"thing {at}") for at, figure in enumerate(figures)]


def figure_samples():
    """Pairs (row of figures, base): ordinary ones, parts without things, parts that are in order."""
    told = [
        ([1, 0], 2), ([0, 1], 2), ([1, 1, 0, 0], 2), ([0, 0, 1, 1], 2), ([1, 0, 1, 0], 2), ([0, 1, 0, 1], 2),
        ([2, 0, 1], 3), ([1, 2, 0], 3), ([2, 2, 0, 0], 3), ([2, 0, 2, 1, 0, 1], 3), ([0, 2, 1, 1, 0, 2, 1], 3),
        ([4, 1, 1, 0, 4, 0, 1], 5), ([0, 3, 3, 1, 0, 1, 3], 4), ([1, 0, 0, 0, 0], 2), ([1, 1, 1, 1, 0], 2),
    ]
    for base in (2, 3, 10, 64):
        high = base - 1
        told += [
            ([], base), ([0], base), ([high], base), ([high] * 200, base), ([0, high], base), ([high, 0], base),
            (spread(200, base), base), (spread(200, 2, 3), base), (spread(9, base, 5), base),
            (sorted(spread(200, base, 7)), base), (sorted(spread(200, base, 8), reverse=True), base),
            ([high] * 100 + [0] * 100, base), ([0, high] * 100, base),
        ]
    return told


SAMPLES = figure_samples()


def plain_steps(row, base):
    """The steps by the words of point 10, each with the row and the hand behind it."""
    row = [tuple(pair) for pair in row]
    figures = [figure for figure, _ in row]
    marks = [len([other for other in figures if other < part]) for part in range(base)]
    ends = [len([other for other in figures if other <= part]) for part in range(base)]
    told = []
    hand = None
    while True:
        if hand is None:
            for part in range(base):
                while marks[part] != ends[part] and row[marks[part]] and row[marks[part]][0] == part:
                    marks[part] += 1
                if marks[part] != ends[part]:
                    place = marks[part]
                    hand, row[place] = row[place], None
                    told.append((("take", place), list(row), hand))
                    break
            else:
                return told
        else:
            part = hand[0]
            while row[marks[part]] is not None and row[marks[part]][0] == part:
                marks[part] += 1
            place = marks[part]
            word = "lay" if row[place] is None else "change"
            row[place], hand = hand, row[place]
            marks[part] += 1
            told.append(((word, place), list(row), hand))


def walked(row, base):
    walk = HeapWalk(row, base)
    while walk.step() is not None:
        pass
    return walk


class Steps(unittest.TestCase):
    def test_plain_ones(self):
        walk = HeapWalk([(1, "a"), (2, "b"), (0, "c"), (2, "d")], 3)
        told = []
        for _ in range(6):
            told.append((walk.row(), walk.hand(), walk.puts(), walk.step()))
        a, b, c, d = (1, "a"), (2, "b"), (0, "c"), (2, "d")
        self.assertEqual(frozen(told), frozen([
            ([a, b, c, d], None, 0, ("take", 0)),
            ([None, b, c, d], a, 0, ("change", 1)),
            ([None, a, c, d], b, 1, ("change", 2)),
            ([None, a, b, d], c, 2, ("lay", 0)),
            ([c, a, b, d], None, 3, None),
            ([c, a, b, d], None, 3, None),
        ]))

    def test_marks_that_go_on(self):
        walk = HeapWalk(named([0, 1, 1, 0, 0]), 2)
        told = [walk.step() for _ in range(6)]
        self.assertEqual(told, [("take", 1), ("change", 3), ("lay", 1), ("take", 2), ("change", 4), ("lay", 2)])
        self.assertIsNone(walk.step())
        walk = HeapWalk(named([0, 1, 0, 1, 0]), 2)
        self.assertEqual([walk.step() for _ in range(4)], [("take", 1), ("change", 4), ("lay", 1), None])

    def test_parts_without_things(self):
        walk = HeapWalk(named([9, 4, 9, 0]), 64)
        self.assertEqual([walk.step() for _ in range(4)], [("take", 0), ("change", 3), ("lay", 0), None])

    def test_rings_of_two_by_two(self):
        walk = HeapWalk(named([1, 1, 0, 0]), 2)
        told = [walk.step() for _ in range(7)]
        rightly = [("take", 0), ("change", 2), ("lay", 0), ("take", 1), ("change", 3), ("lay", 1), None]
        self.assertEqual(frozen(told), frozen(rightly))
        self.assertEqual(walk.row(), [(0, "thing 2"), (0, "thing 3"), (1, "thing 0"), (1, "thing 1")])

    def test_of_none_and_of_one(self):
        for base in BASES:
            for row in ([], (), [(0, "a")], [(base - 1, "a")], [[base - 1, "a"]]):
                walk = HeapWalk(row, base)
                for _ in range(3):
                    self.assertEqual(frozen((walk.step(), walk.hand(), walk.puts())), frozen((None, None, 0)))
                    self.assertEqual(frozen(walk.row()), frozen([tuple(pair) for pair in row]))

    def test_each_move_with_the_row_and_the_hand_behind_it(self):
        for figures, base in SAMPLES:
            walk = HeapWalk(named(figures), base)
            puts = 0
            for move, row, hand in plain_steps(named(figures), base):
                self.assertEqual(frozen(walk.step()), frozen(move))
                self.assertEqual((walk.row(), walk.hand()), (row, hand))
                puts += move[0] != "take"
                self.assertEqual(frozen(walk.puts()), frozen(puts))
            for _ in range(3):
                self.assertEqual(frozen((walk.step(), walk.hand(), walk.puts())), frozen((None, None, puts)))

    def test_one_hand_and_one_empty_place(self):
        for figures, base in SAMPLES:
            pairs = sorted(named(figures))
            walk = HeapWalk(named(figures), base)
            while walk.step() is not None:
                row, hand = walk.row(), walk.hand()
                self.assertEqual(row.count(None), 0 if hand is None else 1)
                self.assertEqual(sorted(pair for pair in row + [hand] if pair is not None), pairs)

    def test_at_the_end_figures_rise(self):
        for figures, base in SAMPLES:
            walk = walked(named(figures), base)
            self.assertEqual([figure for figure, _ in walk.row()], sorted(figures))
            self.assertEqual(sorted(walk.row()), sorted(named(figures)))
            self.assertIsNone(walk.hand())

    def test_things_of_each_kind(self):
        things = [0, "", (), -7, (1, ("b", ())), 10 ** 18 - 1, (0,), 0, ()]
        row = list(zip(spread(len(things), 4, 2), things))
        walk = HeapWalk(row, 4)
        told = []
        for _ in plain_steps(row, 4):
            told.append((walk.step(), walk.row(), walk.hand()))
        self.assertEqual(frozen(told), frozen(plain_steps(row, 4)))

    def test_figures_are_not_put_beside_one_another_by_size(self):
        for figures, base in SAMPLES:
            shy = shy_rows([figures])[0]
            self.assertEqual(walked(named(shy), base).row(), walked(named(figures), base).row())


class Own(unittest.TestCase):
    def test_list_as_tuple(self):
        for figures, base in SAMPLES:
            rightly = plain_steps(named(figures), base)
            for kind in (list, tuple):
                walk = HeapWalk(turned(named(figures), kind), base)
                self.assertEqual(frozen(walk.row()), frozen(named(figures)))
                told = []
                move = walk.step()
                while move is not None:
                    told.append((move, walk.row(), walk.hand()))
                    move = walk.step()
                self.assertEqual(told, rightly)

    def test_what_is_handed_in_is_neither_changed_nor_kept(self):
        for figures, base in SAMPLES:
            for kind in (list, tuple):
                row = [kind(pair) for pair in named(figures)]
                before = frozen(row)
                walk = HeapWalk(row, base)
                walk.step()
                self.assertEqual(frozen(row), before)
                spoil(row)
                while walk.step() is not None:
                    pass
                self.assertEqual(frozen(walk.row()), frozen(walked(named(figures), base).row()))
                row = [kind(pair) for pair in named(figures)]
                walked(row, base)
                self.assertEqual(frozen(row), before)

    def test_answers_are_the_askers_own(self):
        for figures, base in SAMPLES[:30]:
            walk = HeapWalk(named(figures), base)
            for move, row, hand in plain_steps(named(figures), base)[:40]:
                check_asks_are_own(self, walk, "row", "hand", "puts")
                self.assertEqual((walk.step(), walk.row(), walk.hand()), (move, row, hand))

    def test_told_steps_that_bear_lists_are_the_askers_own(self):
        steps = from_last([(1, 0), (0, 1), (1, 1), (0, 0)], 2)[1]
        before = frozen(steps)
        walk = HeapWalk([(1, steps[0]), (0, steps[1])], 2)
        for _ in range(4):
            check_asks_are_own(self, walk, "row", "hand", "puts")
            walk.step()
        spoil(walk.row())
        self.assertEqual(frozen(steps), before)
        spoil(steps)
        self.assertEqual(frozen(walk.row()), frozen([(0, (0, [3, 1, 0, 2])), (1, (1, [0, 3, 1, 2]))]))

    def test_a_told_row_stays_as_it_was(self):
        walk = HeapWalk([(1, "a"), (0, "b")], 2)
        rows = [walk.row()]
        while walk.step() is not None:
            rows.append(walk.row())
        a, b = (1, "a"), (0, "b")
        self.assertEqual(rows, [[a, b], [None, b], [None, a], [b, a]])

    def test_two_side_by_side(self):
        row = named(spread(50, 5, 4))
        one, other = HeapWalk(row, 5), HeapWalk(row, 5)
        other.step()
        there = (other.row(), other.hand(), other.puts())
        while one.step() is not None:
            pass
        self.assertEqual((other.row(), other.hand(), other.puts()), there)
        while other.step() is not None:
            pass
        self.assertEqual(frozen(one.row()), frozen(other.row()))
        self.assertEqual(one.puts(), other.puts())


class PutsAhead(unittest.TestCase):
    def test_plain_ones(self):
        self.assertEqual(frozen(puts_ahead([[0, 0, 1], [1, 0, 0], [0, 1, 2]])), frozen(3))
        self.assertEqual(frozen(puts_ahead([[5, 0], [0, 7]])), frozen(0))
        self.assertEqual(frozen(puts_ahead([[0, 5], [5, 0]])), frozen(10))
        self.assertEqual(frozen(puts_ahead([[0] * 64 for _ in range(64)])), frozen(0))

    def test_against_the_puts_that_come(self):
        for figures, base in SAMPLES:
            ahead = puts_ahead(table(figures, base))
            self.assertIs(type(ahead), int)
            self.assertEqual(walked(named(figures), base).puts(), ahead)
            stand_elsewhere = [part for part, figure in zip(sorted(figures), figures) if part != figure]
            self.assertEqual(ahead, len(stand_elsewhere))

    def test_list_as_tuple_and_own(self):
        for figures, base in SAMPLES:
            check_list_as_tuple(self, puts_ahead, table(figures, base))
            check_answer_is_own(self, puts_ahead, table(figures, base))


def plain_heap_sorted(rows, base):
    """By the words of point 11: each stretch of point 8 walked by heaps, as its rows stand by then."""
    rows = [tuple(row) for row in rows]
    puts = 0
    waiting = [(0, len(rows), 0)]
    while waiting:
        first, last, column = waiting.pop(0)
        if last - first < 2 or column == columns_of(rows):
            continue
        figures = [row[column] for row in rows[first:last]]
        if len(set(figures)) > 1:
            steps = plain_steps(list(zip(figures, rows[first:last])), base)
            if steps:
                rows[first:last] = [row for _, row in steps[-1][1]]
            puts += len([move for move, _, _ in steps if move[0] != "take"])
        parts = []
        begin = first
        for figure in sorted(set(figures)):
            parts.append((begin, begin + figures.count(figure), column + 1))
            begin += figures.count(figure)
        waiting = parts + waiting
    return (rows, puts)


class HeapSorted(unittest.TestCase):
    def test_plain_ones(self):
        told = heap_sorted([(1, 0), (0, 1), (1, 1), (0, 0)], 2)
        self.assertEqual(frozen(told), frozen(([(0, 0), (0, 1), (1, 0), (1, 1)], 4)))
        told = heap_sorted([(1, 1), (0, 1), (0, 0), (1, 0)], 2)
        self.assertEqual(frozen(told), frozen(([(0, 0), (0, 1), (1, 0), (1, 1)], 4)))
        self.assertEqual(frozen(heap_sorted([(1,), (0,)], 64)), frozen(([(0,), (1,)], 2)))
        self.assertEqual(frozen(heap_sorted([(0,), (1,)], 64)), frozen(([(0,), (1,)], 0)))

    def test_rows_stand_as_the_heaps_left_them(self):
        rows = [(2, 1), (1, 0), (0, 0), (2, 0), (1, 1), (2, 2)]
        told = heap_sorted(rows, 3)
        self.assertEqual(frozen(told), frozen((sorted(rows), plain_heap_sorted(rows, 3)[1])))
        stable = 0
        order, steps = [0, 1, 2, 3, 4, 5], from_first(rows, 3)[1]
        for first, last, column in steps:
            figures = [rows[place][column] for place in order[first:last]]
            stable += puts_ahead(table(figures, 3))
            order[first:last] = sorted(order[first:last], key=lambda place: rows[place][column])
        self.assertNotEqual(told[1], stable)

    def test_no_rows_no_columns_and_rows_alike(self):
        for base in (2, 10, 64):
            self.assertEqual(frozen(heap_sorted([], base)), frozen(([], 0)))
            self.assertEqual(frozen(heap_sorted((), base)), frozen(([], 0)))
            for row in ((), (1,), (0,) * 120, (base - 1,) * 120):
                for many in (1, 2, 200):
                    self.assertEqual(frozen(heap_sorted([row] * many, base)), frozen(([row] * many, 0)))

    def test_of_120_columns(self):
        rows = deep_rows(120)
        self.assertEqual(frozen(heap_sorted(rows, 2)), frozen((sorted(rows), plain_heap_sorted(rows, 2)[1])))

    def test_as_told(self):
        for rows, base in ROWS:
            self.assertEqual(frozen(heap_sorted(rows, base)), frozen(plain_heap_sorted(rows, base)))

    def test_rows_rise(self):
        for rows, base in ROWS:
            self.assertEqual(frozen(heap_sorted(rows, base)[0]), frozen(sorted(rows)))

    def test_of_one_column_as_many_as_told_ahead(self):
        for base in BASES:
            rows = scattered_rows(200, 1, base, 17)
            self.assertEqual(heap_sorted(rows, base)[1], puts_ahead(table([row[0] for row in rows], base)))

    def test_rising_rows_need_none(self):
        for rows, base in ROWS:
            self.assertEqual(heap_sorted(sorted(rows), base)[1], 0)

    def test_list_as_tuple_and_own(self):
        for rows, base in ROWS:
            check_list_as_tuple(self, heap_sorted, rows, base)
            check_answer_is_own(self, heap_sorted, rows, base)


if __name__ == "__main__":
    unittest.main()
