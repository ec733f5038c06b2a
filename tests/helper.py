"""What several test files need."""

import copy
import itertools
import math

from figuresort.spelling import spelled

BASES = (2, 3, 5, 7, 10, 12, 16, 27, 31, 36, 60, 63, 64)
TWENTY_ONE = 10 ** 21 - 1


def spread(many, below, start=1):
    """So many numbers from 0 to below `below`, scattered, the same in each run."""
    told = []
    state = start
    for _ in range(many):
        state = (state * 6364136223846793005 + 1442695040888963407) % 2 ** 64
        told.append((state >> 3) % below)
    return told


def frozen(thing):
    """A thing with its kinds, all through, so that 1 and True, (1,) and [1] differ."""
    if type(thing) in (list, tuple):
        return (type(thing).__name__, tuple(frozen(part) for part in thing))
    return (type(thing).__name__, thing)


def both_kinds(rows):
    """Rows as a list and as a tuple, of lists and of tuples."""
    return [outer([inner(row) for row in rows]) for outer in (list, tuple) for inner in (list, tuple)]


def turned(thing, kind):
    """A thing with each list and tuple in it, all through, as one kind of both."""
    if type(thing) in (list, tuple):
        return kind(turned(part, kind) for part in thing)
    return thing


def lists_in(thing):
    """Each list that lies in a thing, itself too, however deep."""
    if type(thing) not in (list, tuple):
        return []
    told = [thing] if type(thing) is list else []
    for part in thing:
        told.extend(lists_in(part))
    return told


def spoil(thing):
    """Changes each list that lies in a thing."""
    for found in lists_in(thing):
        found.reverse()
        found.append("spoiled")


def check_answer_is_own(test, ask, *handed):
    """What is handed in stays and isn't kept, what is told is the asker's own, told again the same."""
    handed = copy.deepcopy(handed)
    before = frozen(handed)
    first = ask(*handed)
    told = frozen(first)
    second = ask(*handed)
    test.assertEqual(frozen(handed), before)
    test.assertEqual(frozen(second), told)
    every_list = lists_in(first) + lists_in(second) + lists_in(handed)
    test.assertEqual(len({id(found) for found in every_list}), len(every_list))
    spoil(first)
    test.assertEqual(frozen(second), told)
    test.assertEqual(frozen(handed), before)
    test.assertEqual(frozen(ask(*handed)), told)
    spoil(handed)
    test.assertEqual(frozen(second), told)


def check_asks_are_own(test, thing, *names):
    """What an object is asked by these methods is told again the same, in lists of the asker's own."""
    first = [getattr(thing, name)() for name in names]
    told = frozen(first)
    second = [getattr(thing, name)() for name in names]
    test.assertEqual(frozen(second), told)
    every_list = lists_in(first) + lists_in(second)
    test.assertEqual(len({id(found) for found in every_list}), len(every_list))
    spoil(first)
    test.assertEqual(frozen(second), told)
    test.assertEqual(frozen([getattr(thing, name)() for name in names]), told)


def check_list_as_tuple(test, ask, *handed):
    """The same is told whether lists or tuples are handed in, all through."""
    told = frozen(ask(*handed))
    for kind in (list, tuple):
        test.assertEqual(frozen(ask(*[turned(part, kind) for part in handed])), told)


def scattered_rows(many, columns, below, start=1):
    """So many rows of so many scattered figures."""
    figures = spread(many * columns, below, start)
    return [tuple(figures[at * columns:(at + 1) * columns]) for at in range(many)]


def late_rows(many, columns, below):
    """Rows that are alike in all columns but the last few."""
    return [(below - 1,) * (columns - 3) + row for row in scattered_rows(many, 3, below, 9)]


def deep_rows(columns):
    """Rows that part one by one, at each column another."""
    return [(0,) * at + (1,) + (0,) * (columns - at - 1) for at in range(columns)] + [(0,) * columns]


def row_samples():
    """Pairs (rows, base): ordinary ones and the edges that the document names."""
    told = [([], 2), ([], 64), ([()], 10), ([()] * 3, 2), ([()] * 200, 64)]
    for base in (2, 3, 10, 64):
        high = base - 1
        told += [
            ([(0,)], base), ([(high,)], base), ([(high,) * 120], base), ([(0, high, 0)] * 2, base),
            ([(high, 0)] * 200, base), ([(0,) * 120] * 200, base), ([(1,), (0,)], base), ([(0,), (high,)], base),
            ([(high, 0), (0, high)], base), ([(0, 1), (1, 0), (0, 1), (0, 0)], base),
            ([(1, 0, 1), (0, 0, 1), (1, 0, 0), (0, 0, 0), (1, 0, 1)], base),
            ([(high, 1, 0), (high, 0, 0), (high, 1, 1)], base),
            (scattered_rows(200, 1, base), base), (scattered_rows(200, 4, min(base, 3), 5), base),
            (scattered_rows(40, 6, 2, 7), base), (scattered_rows(30, 120, base, 3), base),
            (late_rows(25, 120, base), base),
        ]
    told += [(deep_rows(120), 2), (deep_rows(120)[::-1], 64), (scattered_rows(200, 120, 64, 11), 64)]
    told += [(late_rows(200, 120, 2), 2), ([(figure,) for figure in range(63, -1, -1)], 64)]
    told += [spelled_pair("number", [n - 50 for n in spread(200, 100)], 10)]
    told += [spelled_pair("number", [n - 5 * 10 ** 17 for n in spread(60, 10 ** 18)], 2)]
    told += [spelled_pair("part", [(1, 2), (-1, 3), (1, 3), (1, 2), (0, 1), (-7, 60)], 16)]
    told += [spelled_pair("text", ["pear", "fig", "apple", "figs", "", "pear", "date", ""], 10)]
    return told


def spelled_pair(kind, keys, base):
    by, rows = spelled(kind, keys, base)
    return (rows, by)


def columns_of(rows):
    return len(rows[0]) if rows else 0


def plain_order(rows):
    """The order by which rows rise, like ones as they stood, found by comparing."""
    return [at for _, at in sorted((tuple(row), at) for at, row in enumerate(rows))]


class Figure(int):
    """A figure that refuses to be put beside another by size."""

    def refuse(self, other):
        raise AssertionError("asked which is greater")

    __lt__ = __le__ = __gt__ = __ge__ = refuse
    __hash__ = int.__hash__


def shy_rows(rows):
    """The same rows, of figures that may be counted, but not compared by size."""
    return [tuple(Figure(figure) for figure in row) for row in rows]


def scattered_order(many, start=1):
    """An order of so many things, the same in each run."""
    return [at for _, at in sorted((key, at) for at, key in enumerate(spread(many, 10 ** 6, start)))]


def all_orders(most):
    return [list(order) for many in range(most + 1) for order in itertools.permutations(range(many))]


def long_orders():
    told = [scattered_order(many, start) for many in (7, 30, 120, 199, 200) for start in (1, 2)]
    told += [list(range(200)), list(range(200))[::-1], list(range(1, 200)) + [0], [199] + list(range(199))]
    told += [[at ^ 1 for at in range(200)], [0, 1, 2] + list(range(199, 2, -1))]
    return told


def order_samples():
    """Orders: all of few things, and some of up to 200."""
    return all_orders(5) + long_orders()


NO_ORDERS = (
    None, True, False, 0, 1, -1, 5, TWENTY_ONE, "", "0", "01", "order",
    [1], [-1], [2, 0], [0, 0], [1, 1], [0, 2], [1, 2], [0, -1], [-1, 0], [-2, -1], [0, 1, 1], [0, 1, 3], [3, 1, 2],
    [0, 1, 2, 3, 3], [1, 2, 3, 4, 5], [TWENTY_ONE], [0, TWENTY_ONE], [-TWENTY_ONE, 0], [2 ** 64, 0], [0, 2 ** 64 + 1],
    [False], [True], [True, 0], [0, True], [False, 1], [1, False], [False, True], [True, False], [0, 1, True],
    [None], [0, None], [None, 0], ["0"], [0, "1"], ["", ""], ["a"], [0, ""], [[]], [[0]], [0, [1]], [[0], [1]],
    [()], [(0,)], [0, (1,)], [[0, 1]], [[], 0], [0, 1, []], [[[[]]]], [[1, 0], [0, 1]], list("01"),
    list(range(1, 201)), list(range(199)) + [198], list(range(199)) + [200], list(range(199)) + [True], [0] * 200,
    list(range(200)) + [None], list(range(-1, 199)), list(range(0, -200, -1)),
)


def deep_thing(kind, levels):
    thing = kind()
    for _ in range(levels):
        thing = kind([thing])
    return thing


def scattered_parts(many, start=1):
    """So many fractions in lowest terms."""
    told = []
    for top, bottom in zip(spread(many, 400, start), spread(many, 60, start + 1)):
        top, bottom = top - 200, bottom + 1
        measure = math.gcd(top, bottom)
        told.append((top // measure, bottom // measure))
    return told


def scattered_texts(many, longest, below, start=1):
    """So many texts of no letters to longest, of the first few letters."""
    told = []
    for at, length in enumerate(spread(many, longest + 1, start)):
        told.append("".join("abcdefghijklmnopqrstuvwxyz"[n] for n in spread(length, below, at + start)))
    return told


def key_samples():
    """Tuples (kind, keys, base): ordinary ones and the edges that the document names."""
    most = 10 ** 18 - 1
    told = []
    for base in (2, 10, 64):
        told += [
            ("number", [], base), ("number", [0], base), ("number", [5, 5, 5], base), ("number", [3, -1, 2, 0], base),
            ("number", [most, -most, 0, most - 1, 1 - most], base), ("number", [most - n for n in range(30)], base),
            ("number", [n - 50 for n in spread(200, 100)], base), ("number", list(range(200)), base),
            ("number", list(range(200))[::-1], base), ("number", [n - most for n in spread(60, 2 * most, 3)], base),
            ("part", [], base), ("part", [(1, 2)], base), ("part", [(0, 1), (-1, 2), (1, 60), (1, 59)], base),
            ("part", [(most - 10, 60), (most - 10, 59), (-most, 1), (1, 7), (most - 10, 60)], base),
            ("part", scattered_parts(40), base), ("part", [(n, 1) for n in spread(200, 50, 5)], base),
            ("part", [(n // 2, 1) if n % 2 == 0 else (n, 2) for n in range(-40, 40)], base),
        ]
    told += [
        ("text", [], 10), ("text", [""], 2), ("text", ["", "", "a"], 64),
        ("text", ["z" * 20, "a" * 20, "z" * 19, ""], 3), ("text", scattered_texts(200, 3, 3), 10),
        ("text", ["pear", "fig", "apple", "figs", "", "pear", "date", ""], 10),
        ("text", scattered_texts(50, 20, 26, 4), 10), ("text", sorted(scattered_texts(60, 4, 4, 9)), 10),
    ]
    return told
