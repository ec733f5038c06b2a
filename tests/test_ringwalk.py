"""Point 9, and points 1 and 2 of ringwalk.py."""

import copy
import unittest

from figuresort.errors import BadOrder
from figuresort.lastfirst import from_last
from figuresort.orders import back_of, put, rings, told_order
from figuresort.ringwalk import RingWalk, ring_moves
from helper import (
    NO_ORDERS, check_answer_is_own, check_asks_are_own, check_list_as_tuple, frozen, order_samples, row_samples,
    scattered_order, spoil, turned,
)

ORDERS = order_samples()
RING_OF_ALL = list(range(1, 200)) + [0]


def letters(many):
    return [f"thing {at}" for at in range(many)]


def plain_walk(things, order):
    """The moves, each with the row and the hand behind it, found by following each thing's place."""
    row = list(things)
    told = []
    for first in range(len(order)):
        ring = [first]
        while order[ring[-1]] != first and min(ring) == first and len(ring) <= len(order):
            ring.append(order[ring[-1]])
        if len(ring) == 1 or min(ring) < first:
            continue
        hand, row[first] = row[first], None
        told.append((("take", first), list(row), hand))
        for to, place in zip(ring, ring[1:]):
            row[to], row[place] = row[place], None
            told.append((("move", place, to), list(row), hand))
        row[ring[-1]] = hand
        told.append((("lay", ring[-1]), list(row), None))
    return told


def all_steps(walk):
    told = []
    while True:
        move = walk.step()
        if move is None:
            return told
        told.append(move)


class RingMoves(unittest.TestCase):
    def test_plain_ones(self):
        self.assertEqual(frozen(ring_moves([2, 0, 1])), frozen(4))
        self.assertEqual(frozen(ring_moves([1, 0, 2, 4, 3])), frozen(6))
        self.assertEqual(frozen(ring_moves([0, 3, 4, 1, 5, 2])), frozen(7))

    def test_without_rings(self):
        for many in (0, 1, 2, 200):
            self.assertEqual(frozen(ring_moves(list(range(many)))), frozen(0))
            self.assertEqual(frozen(ring_moves(tuple(range(many)))), frozen(0))

    def test_of_one_ring_of_all_and_of_rings_of_two(self):
        self.assertEqual(ring_moves(RING_OF_ALL), 201)
        self.assertEqual(ring_moves([at ^ 1 for at in range(200)]), 300)

    def test_as_told(self):
        for order in ORDERS:
            self.assertEqual(frozen(ring_moves(order)), frozen(sum(len(ring) + 1 for ring in rings(order))))

    def test_list_as_tuple_and_own(self):
        for order in ORDERS:
            check_list_as_tuple(self, ring_moves, order)
            check_answer_is_own(self, ring_moves, order)


class Steps(unittest.TestCase):
    def test_plain_ones(self):
        walk = RingWalk(["a", "b", "c", "d"], [2, 1, 3, 0])
        told = []
        for _ in range(6):
            told.append((walk.row(), walk.hand(), walk.left(), walk.step()))
        self.assertEqual(frozen(told), frozen([
            (["a", "b", "c", "d"], None, 4, ("take", 0)),
            ([None, "b", "c", "d"], "a", 3, ("move", 2, 0)),
            (["c", "b", None, "d"], "a", 2, ("move", 3, 2)),
            (["c", "b", "d", None], "a", 1, ("lay", 3)),
            (["c", "b", "d", "a"], None, 0, None),
            (["c", "b", "d", "a"], None, 0, None),
        ]))

    def test_rings_one_by_one(self):
        told = all_steps(RingWalk((10, 11, 12, 13), (1, 0, 3, 2)))
        rightly = [("take", 0), ("move", 1, 0), ("lay", 1), ("take", 2), ("move", 3, 2), ("lay", 3)]
        self.assertEqual(frozen(told), frozen(rightly))

    def test_of_none_of_one_and_without_rings(self):
        for many in (0, 1, 2, 200):
            walk = RingWalk(letters(many), list(range(many)))
            for _ in range(3):
                self.assertEqual(frozen((walk.left(), walk.step())), frozen((0, None)))
                self.assertEqual(frozen((walk.row(), walk.hand())), frozen((letters(many), None)))

    def test_of_one_ring_of_all(self):
        walk = RingWalk(letters(200), RING_OF_ALL)
        rightly = [("take", 0)] + [("move", at + 1, at) for at in range(199)] + [("lay", 199)]
        self.assertEqual(all_steps(walk), rightly)
        self.assertEqual(walk.row(), letters(200)[1:] + ["thing 0"])

    def test_each_move_with_the_row_and_the_hand_behind_it(self):
        for order in ORDERS:
            things = letters(len(order))
            walk = RingWalk(things, order)
            plain = plain_walk(things, order)
            self.assertEqual(frozen(walk.left()), frozen(len(plain)))
            for at, behind in enumerate(plain):
                self.assertEqual((walk.step(), walk.row(), walk.hand()), behind)
                self.assertEqual(frozen(walk.left()), frozen(len(plain) - at - 1))

    def test_kinds_of_what_is_told(self):
        for order in ORDERS:
            for move in all_steps(RingWalk(letters(len(order)), order)):
                self.assertIs(type(move), tuple)
                self.assertEqual([type(part) for part in move], [str] + [int] * (len(move) - 1))

    def test_one_hand_and_no_other_place(self):
        for order in ORDERS:
            things = letters(len(order))
            walk = RingWalk(things, order)
            while walk.step() is not None:
                row, hand = walk.row(), walk.hand()
                self.assertEqual(row.count(None), 0 if hand is None else 1)
                there = [thing for thing in row + [hand] if thing is not None]
                self.assertEqual(sorted(there), sorted(things))
            self.assertIsNone(walk.hand())

    def test_as_many_as_told_ahead_and_the_row_that_put_tells(self):
        for order in ORDERS:
            things = letters(len(order))
            walk = RingWalk(things, order)
            self.assertEqual(len(all_steps(walk)), ring_moves(order))
            self.assertEqual(frozen(walk.row()), frozen(put(things, order)))

    def test_done_is_told_as_often_as_asked(self):
        for order in ORDERS:
            walk = RingWalk(letters(len(order)), order)
            all_steps(walk)
            row = walk.row()
            for _ in range(3):
                self.assertEqual(frozen((walk.step(), walk.hand(), walk.left())), frozen((None, None, 0)))
                self.assertEqual(frozen(walk.row()), frozen(row))

    def test_and_back(self):
        for order in ORDERS:
            there = RingWalk(letters(len(order)), order)
            all_steps(there)
            back = RingWalk(there.row(), back_of(order))
            all_steps(back)
            self.assertEqual(back.row(), letters(len(order)))

    def test_rows_go_where_they_rise(self):
        for rows, _ in row_samples():
            walk = RingWalk(rows, told_order(rows))
            all_steps(walk)
            self.assertEqual(frozen(walk.row()), frozen(sorted(rows)))

    def test_things_of_each_kind(self):
        things = [0, "", (), -7, "a", (1, ("b", ())), 10 ** 18 - 1, "0", (0,), 0, ()]
        order = scattered_order(len(things), 3)
        walk = RingWalk(things, order)
        rightly = plain_walk(things, order)
        told = []
        for _ in rightly:
            told.append((walk.step(), walk.row(), walk.hand()))
        self.assertEqual(frozen(told), frozen(rightly))


class Refused(unittest.TestCase):
    def check_refused_as_put(self, things, order):
        before = frozen((things, order))
        for deed in (put, RingWalk):
            with self.assertRaises(BadOrder) as caught:
                deed(things, order)
            self.assertIs(type(caught.exception), BadOrder)
        self.assertEqual(frozen((things, order)), before)

    def test_no_order(self):
        for thing in NO_ORDERS:
            many = len(thing) if type(thing) in (list, tuple) else 1
            for handed in (thing, turned(thing, list), turned(thing, tuple)):
                self.check_refused_as_put(["x"] * many, handed)
                self.check_refused_as_put((), handed)

    def test_not_of_as_many(self):
        for many in (0, 1, 2, 3, 199, 200):
            for other in (0, 1, 2, 3, 199, 200):
                if many != other:
                    self.check_refused_as_put(letters(many), list(range(other)))
                    self.check_refused_as_put(tuple(letters(many)), tuple(range(other)))


class Own(unittest.TestCase):
    def test_list_as_tuple(self):
        for order in ORDERS:
            for kind in (list, tuple):
                for other in (list, tuple):
                    walk = RingWalk(kind(letters(len(order))), other(order))
                    self.assertIs(type(walk.row()), list)
                    all_steps(walk)
                    self.assertEqual(frozen(walk.row()), frozen(put(letters(len(order)), order)))

    def test_what_is_handed_in_is_neither_changed_nor_kept(self):
        for order in ORDERS:
            things, handed = letters(len(order)), list(order)
            walk = RingWalk(things, handed)
            rightly = plain_walk(things, order)
            for at, behind in enumerate(rightly):
                self.assertEqual((walk.step(), walk.row(), walk.hand()), behind)
                if at == 0:
                    self.assertEqual((things, handed), (letters(len(order)), order))
                    spoil((things, handed))
            self.assertIsNone(walk.step())

    def test_answers_are_the_askers_own(self):
        for order in ORDERS[-20:]:
            walk = RingWalk(letters(len(order)), order)
            rightly = plain_walk(letters(len(order)), order)
            for move, row, hand in rightly[:60]:
                check_asks_are_own(self, walk, "row", "hand", "left")
                self.assertEqual((walk.step(), walk.row(), walk.hand()), (move, row, hand))

    def test_told_steps_that_bear_lists_are_the_askers_own(self):
        steps = from_last([(1, 0), (0, 1), (1, 1), (0, 0)], 2)[1]
        before = frozen(steps)
        walk = RingWalk(steps, [1, 0])
        for _ in range(4):
            check_asks_are_own(self, walk, "row", "hand", "left")
            walk.step()
        spoil(walk.row())
        self.assertEqual(frozen(steps), before)
        spoil(steps)
        self.assertEqual(frozen(walk.row()), frozen([(0, [3, 1, 0, 2]), (1, [0, 3, 1, 2])]))

    def test_a_told_row_stays_as_it_was(self):
        walk = RingWalk(["a", "b"], [1, 0])
        rows = [walk.row()]
        while walk.step() is not None:
            rows.append(walk.row())
        self.assertEqual(rows, [["a", "b"], [None, "b"], ["b", None], ["b", "a"]])

    def test_two_side_by_side(self):
        things, order = letters(30), scattered_order(30, 5)
        one, other = RingWalk(things, order), RingWalk(things, order)
        moves = all_steps(one)
        self.assertEqual((other.row(), other.hand(), other.left()), (things, None, len(moves)))
        self.assertEqual(all_steps(other), moves)
        third = RingWalk(one.row(), order)
        third.step()
        self.assertEqual(one.row(), put(things, order))

    def test_a_refusal_leaves_others_as_they_are(self):
        things, order = letters(5), [1, 2, 3, 4, 0]
        walk = RingWalk(things, order)
        walk.step()
        before = copy.deepcopy((walk.row(), walk.hand(), walk.left()))
        with self.assertRaises(BadOrder):
            RingWalk(things, [0, 0, 0, 0, 0])
        self.assertEqual((walk.row(), walk.hand(), walk.left()), before)


if __name__ == "__main__":
    unittest.main()
