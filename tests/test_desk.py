"""Points 16 and 17, and points 1 and 2 of desk.py."""

import math
import re
import unittest
from fractions import Fraction

from figuresort.desk import run
from figuresort.errors import BadRow, SortError
from figuresort.heapwalk import heap_sorted
from figuresort.orders import rings
from figuresort.pouring import ahead_of_pours
from figuresort.spelling import spelled
from figuresort.ways import cheapest, moves_ahead
from helper import frozen, key_samples, lists_in, spoil, spread

MOST = 10 ** 18 - 1
ASKS = ("order", "back", "rings", "ahead", "cheapest", "walk", "puts", "poured", "heaps")
EVERY_ASK = ("sort last", "sort first", "sort runs") + ASKS
KIND_ROWS = {"number": "kind number 10", "part": "kind part 10", "text": "kind text 10"}

NUMBER = r"(0|-?[1-9][0-9]{0,17})"
KEYS = {"number": NUMBER, "part": NUMBER + r"(/([2-9]|[1-5][0-9]|60))?", "text": r"'[a-z]{0,20}"}


def plain_key(kind, word):
    """The key of a word, None where it isn't so written."""
    if not re.fullmatch(KEYS[kind], word):
        return None
    if kind == "number":
        return int(word)
    if kind == "text":
        return word[1:]
    top, _, bottom = word.partition("/")
    part = (int(top), int(bottom or 1))
    return part if math.gcd(*part) == 1 else None


def plain_deed(kind, row, room):
    """Whether a row behind the kind row is so written, told by its keys (none for an ask) or None."""
    if row in EVERY_ASK:
        return []
    word, *words = row.split(" ")
    keys = [plain_key(kind, word) for word in words]
    if None in keys or not (word == "row" and len(keys) <= 200 or word == "pour" and 1 <= len(keys) <= room):
        return None
    return keys


def plain_answer(ask, kind, base, words, pourings):
    """The answer to an ask, of the row's words and those of each pouring."""
    def key(word):
        found = plain_key(kind, word)
        return Fraction(*found) if kind == "part" else found
    keys = [plain_key(kind, word) for word in words]
    order = sorted(range(len(words)), key=lambda at: key(words[at]))
    back = [order.index(at) for at in range(len(order))]
    by, rows = spelled(kind, keys, base)
    walk = []
    for ring in rings(order):
        walk.append(f"take {ring[0]}")
        walk += [f"move {place} {to}" for to, place in zip(ring, ring[1:])]
        walk.append(f"lay {ring[-1]}")
    told = {
        "order": " ".join(map(str, order)),
        "back": " ".join(map(str, back)),
        "rings": " ; ".join(" ".join(map(str, ring)) for ring in rings(order)),
        "ahead": " ".join(f"{way} {moves}" for way, moves in moves_ahead(kind, keys, base)),
        "cheapest": cheapest(kind, keys, base)[0],
        "walk": " ; ".join(walk),
        "puts": str(heap_sorted(rows, by)[1]),
        "poured": " ".join(sorted([word for pouring in pourings for word in pouring], key=key)),
        "heaps": " ".join(map(str, ahead_of_pours([len(pouring) for pouring in pourings])[0])),
    }
    return told.get(ask, " ".join(words[at] for at in order)) or "-"


def plain_run(text):
    """The answers, or the number of the first row that isn't so written."""
    kind, words, pourings, answers = None, [], [], []
    rows = re.split("\n", text)
    for line, row in enumerate(rows):
        if row == "":
            continue
        if kind is None:
            head = re.fullmatch("kind (number|part|text) " + NUMBER, row)
            if not head or not 2 <= int(head[2]) <= 64:
                return line
            kind, base = head[1], int(head[2])
            continue
        if plain_deed(kind, row, 200 - sum(map(len, pourings))) is None:
            return line
        if row.split(" ")[0] == "row":
            words = row.split(" ")[1:]
        elif row.split(" ")[0] == "pour":
            pourings.append(row.split(" ")[1:])
        else:
            answers.append(plain_answer(row, kind, base, words, pourings))
    return answers if kind else len(rows)


def line_or_answers(text):
    """What run tells, or the line by which it refuses."""
    try:
        return run(text)
    except BadRow as refusal:
        return refusal.line


def written(kind, key):
    if kind == "part":
        return f"{key[0]}/{key[1]}" if key[1] > 1 else str(key[0])
    return f"'{key}" if kind == "text" else str(key)


class Answers(unittest.TestCase):
    def check_answers(self, asks, rows):
        """Each ask of asks with its answer, behind these rows, in one text and each by itself."""
        text = "\n".join(rows + [ask for ask, _ in asks])
        self.assertEqual(frozen(run(text)), frozen([answer for _, answer in asks]))
        for ask, answer in asks:
            self.assertEqual(run("\n".join(rows + [ask])), [answer])

    def test_of_a_row_of_numbers(self):
        self.check_answers([
            ("sort last", "-5 3 7 7 12"), ("sort first", "-5 3 7 7 12"), ("sort runs", "-5 3 7 7 12"),
            ("order", "1 4 0 2 3"), ("back", "2 0 3 4 1"), ("rings", "0 1 4 3 2"),
            ("ahead", "last 10 first 10 runs 9"), ("cheapest", "runs"),
            ("walk", "take 0 ; move 1 0 ; move 4 1 ; move 3 4 ; move 2 3 ; lay 2"), ("puts", "6"),
            ("poured", "-"), ("heaps", "-"),
        ], ["kind number 10", "row 7 -5 7 12 3"])

    def test_of_a_row_of_parts(self):
        self.check_answers([
            ("sort last", "-1 1/3 1/2 2"), ("sort first", "-1 1/3 1/2 2"), ("sort runs", "-1 1/3 1/2 2"),
            ("order", "2 1 0 3"), ("back", "2 1 0 3"), ("rings", "0 2"), ("ahead", "last 8 first 7 runs 6"),
            ("cheapest", "runs"), ("walk", "take 0 ; move 2 0 ; lay 2"), ("puts", "2"),
        ], ["kind part 10", "row 1/2 1/3 -1 2"])

    def test_of_a_row_of_texts(self):
        self.check_answers([
            ("sort last", "' 'a 'ab 'b"), ("sort first", "' 'a 'ab 'b"), ("sort runs", "' 'a 'ab 'b"),
            ("order", "3 1 2 0"), ("back", "3 1 2 0"), ("rings", "0 3"), ("ahead", "last 8 first 6 runs 7"),
            ("cheapest", "first"), ("walk", "take 0 ; move 3 0 ; lay 3"), ("puts", "2"),
        ], ["kind text 10", "row 'b 'a 'ab '"])

    def test_several_rings(self):
        self.check_answers([
            ("order", "1 0 3 2"), ("back", "1 0 3 2"), ("rings", "0 1 ; 2 3"),
            ("walk", "take 0 ; move 1 0 ; lay 1 ; take 2 ; move 3 2 ; lay 3"),
        ], ["kind number 2", "row 2 1 4 3"])

    def test_of_an_empty_row_and_of_no_row_yet(self):
        empty = [(f"sort {way}", "-") for way in ("last", "first", "runs")]
        empty += [("order", "-"), ("back", "-"), ("rings", "-"), ("ahead", "last 0 first 0 runs 0")]
        empty += [("cheapest", "last"), ("walk", "-"), ("puts", "0"), ("poured", "-"), ("heaps", "-")]
        for head in KIND_ROWS.values():
            for rows in ([head], [head, "row"], [head, "", "row", ""]):
                self.check_answers(empty, rows)
        self.check_answers(empty, ["kind number 10", "row 3 2 1", "row"])

    def test_of_one_key_and_of_like_keys(self):
        for key, head in (("-7", "kind number 2"), ("1/2", "kind part 64"), ("'", "kind text 2")):
            self.check_answers([
                ("sort last", key), ("order", "0"), ("back", "0"), ("rings", "-"), ("ahead", "last 0 first 0 runs 0"),
                ("cheapest", "last"), ("walk", "-"), ("puts", "0"),
            ], [head, f"row {key}"])
            self.check_answers([
                ("sort runs", f"{key} {key} {key}"), ("order", "0 1 2"), ("back", "0 1 2"), ("rings", "-"),
                ("walk", "-"), ("puts", "0"),
            ], [head, f"row {key} {key} {key}"])

    def test_the_row_from_then_on(self):
        text = "kind number 10\nsort last\nrow 2 1\nsort last\nrow 5 4 3\nsort last\norder\nrow\nsort last\nrow 9"
        self.assertEqual(run(text + "\norder"), ["-", "1 2", "3 4 5", "2 1 0", "-", "0"])

    def test_poured(self):
        text = "kind number 10\npoured\nheaps\npour 3 1 2\npoured\nheaps\npour 2\npoured\nheaps\npour 0\npoured\nheaps"
        self.assertEqual(run(text), ["-", "-", "1 2 3", "3", "1 2 2 3", "3 1", "0 1 2 2 3", "3 2"])
        self.assertEqual(run(text + "\npour 9 9\nheaps\npoured")[-2:], ["7", "0 1 2 2 3 9 9"])

    def test_what_is_poured_and_the_row_are_two(self):
        text = "kind text 2\nrow 'b 'a\npour 'z\nsort last\npoured\nrow\npoured\nsort last\npour 'c\npoured\norder"
        self.assertEqual(run(text), ["'a 'b", "'z", "'z", "-", "'c 'z", "-"])

    def test_all_that_was_poured_is_spelled_together(self):
        text = "kind part 10\npour 1/2\npour 1/3\npour -5\npour 1/60 7/59\npoured\nheaps"
        self.assertEqual(run(text), ["-5 1/60 7/59 1/3 1/2", "5"])
        text = "kind text 10\npour 'b\npour 'abc\npour '\npoured\nheaps"
        self.assertEqual(run(text), ["' 'abc 'b", "2 1"])

    def test_by_the_base_of_the_kind_row(self):
        self.assertEqual(run("kind number 2\nrow 3 2 1 0\nahead"), ["last 8 first 8 runs 8"])
        self.assertEqual(run("kind number 64\nrow 3 2 1 0\nahead"), ["last 4 first 4 runs 8"])
        for base in (2, 64):
            self.assertEqual(run(f"kind text {base}\nrow 'd 'c 'b '\nahead"), ["last 4 first 4 runs 8"])

    def test_no_asks(self):
        for text in ("kind number 10", "kind text 2\n", "\n\nkind part 64\nrow 1 2\npour 5\n"):
            self.assertEqual(frozen(run(text)), frozen([]))

    def test_each_ask_each_time_anew(self):
        text = "kind number 10\n" + "\n".join(["row 2 1"] + ["order", "walk"] * 9)
        self.assertEqual(run(text), ["1 0", "take 0 ; move 1 0 ; lay 1"] * 9)


class Read(unittest.TestCase):
    def test_empty_rows_are_passed_over(self):
        self.assertEqual(run("\n\nkind number 10\n\nrow 2 1\n\n\nsort last\n\n"), ["1 2"])
        self.assertEqual(run("\nkind number 10\nrow 2 1\nsort last"), ["1 2"])

    def test_ending_with_and_without_a_line_feed(self):
        for end in ("", "\n", "\n\n"):
            self.assertEqual(run("kind number 10\norder" + end), ["-"])

    def test_keys_at_the_edges(self):
        for kind, keys in (
            ("number", [f"{MOST}", f"-{MOST}", "0", "-1", "1"]),
            ("part", ["1/2", f"{MOST}/2", "-1/60", f"-{MOST}", "0", "59/60", f"{MOST}"]),
            ("text", ["'", "'" + "z" * 20, "'" + "a" * 20, "'" + "z" * 19, "'m"]),
        ):
            for base in (2, 64):
                text = f"kind {kind} {base}\nrow {' '.join(keys)}\n" + "\n".join(EVERY_ASK)
                self.assertEqual(run(text), plain_run(text))
                text = f"kind {kind} {base}\npour {' '.join(keys)}\npour {keys[1]}\npoured\nheaps"
                self.assertEqual(run(text), plain_run(text))

    def test_200_keys(self):
        keys = " ".join(str(n) for n in spread(200, 500))
        text = f"kind number 10\nrow {keys}\npour {keys}\n" + "\n".join(EVERY_ASK)
        self.assertEqual(run(text), plain_run(text))
        text = "kind number 10\n" + "pour 5 3 9 1\n" * 50 + "poured\nheaps\n"
        self.assertEqual(run(text), [" ".join(["1"] * 50 + ["3"] * 50 + ["5"] * 50 + ["9"] * 50), "128 64 8"])

    def test_keys_of_each_kind(self):
        for kind, keys, base in key_samples():
            words = [written(kind, key) for key in keys]
            rows = [f"kind {kind} {base}", " ".join(["row"] + words)]
            rows += [" ".join(["pour"] + words[at:at + 7]) for at in range(0, len(words), 7)]
            text = "\n".join(rows + list(EVERY_ASK))
            self.assertEqual(frozen(run(text)), frozen(plain_run(text)))

    def test_the_answers_are_the_askers_own(self):
        text = "kind number 10\nrow 2 1\nsort last\norder\nheaps"
        first, second = run(text), run(text)
        self.assertEqual(len(lists_in((first, second))), 2)
        spoil(first)
        self.assertEqual(frozen(second), frozen(["1 2", "1 0", "-"]))
        self.assertEqual(frozen(run(text)), frozen(second))


BAD_NUMBERS = ("-0", "01", "-01", "00", "1" * 19, "-" + "1" * 19, "+1", "--1", "-", "1.5", "a", "'a", "1/2", "A", "1-")
BAD_PARTS = ("1/1", "2/4", "1/61", "1/-2", "0/2", "1/0", "1/", "/2", "1/2/3", "-0", "01", "1/02", "'a", "-0/2", "x/2")
BAD_TEXTS = ("a", "'A", "'aB", "'" + "a" * 21, "'a1", "'a'", "1", "''", "'-", "\"a", "a'")
BAD_KEYS = {"number": BAD_NUMBERS + ("1" * 20,), "part": BAD_PARTS + BAD_NUMBERS[:12], "text": BAD_TEXTS}
GOOD_KEYS = {"number": ("0", "-1", "5"), "part": ("0", "1/2", "-7/60"), "text": ("'", "'a", "'fig")}

BAD_HEADS = (
    "kind", "kind number", "kind number 1", "kind number 65", "kind number 0", "kind number -2", "kind number 02",
    "kind number 10 10", "kind number  10", "kind  number 10", " kind number 10", "kind number 10 ", "kind Number 10",
    "kind numbers 10", "kind word 10", "Kind number 10", "kind number ten", "kind 10 number", "kind number 1000",
    "kind number 10/1", "kind text '10", "kind  10", " ", "  ", "number 10", "kind number +10", "kind number 641",
)

BAD_ROWS = (
    "sort", "sort ", "sort last first", "sort middle", "sort Last", "sort  last", " sort last", "sort last ", "sorts",
    "Order", "order ", " order", "order 1", "order order", "back 1", "back ", "rings rings", "ahead last", "cheapest 2",
    "walk 0", "puts 0", "poured 1", "poured ", "heaps 3", "heap", "pour", "pour ", "row ", " row", "Row", "rows",
    "step", "unknown", "kind number 10", "kind part 10", "kind text 64", "kind", " ", "-", "0", "'", "sort -", ";",
    "pours", "~",
)


class Refused(unittest.TestCase):
    def check_refused(self, text, line):
        with self.assertRaises(BadRow) as caught:
            run(text)
        self.assertIs(type(caught.exception), BadRow)
        self.assertIsInstance(caught.exception, SortError)
        self.assertEqual(frozen(caught.exception.line), frozen(line), text)
        self.assertEqual(plain_run(text), line)

    def check_bad_row(self, kind, row):
        """A row that isn't so written, as the first one behind the kind row, behind others, and ahead of others."""
        head, good = KIND_ROWS[kind], GOOD_KEYS[kind][1]
        self.check_refused(f"{head}\n{row}", 1)
        self.check_refused(f"\n\n{head}\n\n{row}\n", 4)
        self.check_refused(f"{head}\nrow {good}\nsort last\npour {good}\npoured\n{row}\norder\nbad", 5)

    def test_the_kind_row(self):
        for row in BAD_HEADS:
            self.check_refused(row, 0)
            self.check_refused(f"\n\n{row}\nkind number 10\norder", 2)
        for base in range(2, 65):
            self.assertEqual(run(f"kind number {base}\norder"), ["-"])

    def test_the_kind_row_is_missing_or_not_first(self):
        for row in EVERY_ASK + ("row", "row 1 2", "pour 1", "row 'a"):
            self.check_refused(row, 0)
            self.check_refused(f"{row}\nkind number 10", 0)
            self.check_refused(f"\n{row}\n\nkind number 10\n{row}", 1)

    def test_the_kind_row_never_comes(self):
        for many in range(5):
            self.check_refused("\n" * many, many + 1)

    def test_rows_behind_it(self):
        for row in BAD_ROWS:
            for kind in KIND_ROWS:
                self.check_bad_row(kind, row)

    def test_keys(self):
        for kind, words in BAD_KEYS.items():
            good = GOOD_KEYS[kind][2]
            for word in words:
                for deed in ("row", "pour"):
                    self.check_bad_row(kind, f"{deed} {word}")
                    self.check_bad_row(kind, f"{deed} {good} {word}")
                    self.check_bad_row(kind, f"{deed} {word} {good}")

    def test_blanks(self):
        for kind, words in GOOD_KEYS.items():
            for deed in ("row", "pour"):
                good = f"{deed} {words[1]} {words[2]}"
                self.assertEqual(run(f"{KIND_ROWS[kind]}\n{good}"), [])
                for row in (f" {good}", f"{good} ", good.replace(" ", "  ", 1), f"{deed} {words[1]}  {words[2]}"):
                    self.check_bad_row(kind, row)

    def test_more_than_200_keys(self):
        for kind, words in GOOD_KEYS.items():
            head, key = KIND_ROWS[kind], " " + words[1]
            self.assertEqual(run(f"{head}\nrow{key * 200}\npour{key * 200}"), [])
            self.check_bad_row(kind, f"row{key * 201}")
            self.check_refused(f"{head}\npour{key * 201}", 1)
            self.check_refused(f"{head}\npour{key * 200}\npoured\npour{key}", 3)
            self.check_refused(f"{head}\npour{key * 199}\nheaps\npour{key * 2}\npour{key}", 3)
            self.check_refused(f"{head}\npour{key * 199}\npour{key}\npour{key}", 3)
            self.assertEqual(run(f"{head}\npour{key * 199}\npour{key}\nrow{key * 200}\nheaps"), ["199 1"])

    def test_each_row_may_have_200(self):
        row = "row" + " 1" * 200
        self.assertEqual(run(f"kind number 2\n{row}\n{row}\n{row}\nputs"), ["0"])

    def test_the_first_that_is_not_so_written(self):
        self.check_refused("kind number 10\norder\nbad\nrow x\nbad", 2)
        self.check_refused("bad\nbad", 0)
        self.check_refused("kind number 99\nbad", 0)

    def test_a_refusal_changes_nothing(self):
        text = "kind number 10\nrow 2 1\nsort last"
        with self.assertRaises(BadRow):
            run("kind number 10\nrow 9 8 7\npour 4\nbad")
        self.assertEqual(run(text), ["1 2"])
        self.assertEqual(run("kind number 10\nsort last\npoured\nheaps"), ["-", "-", "-"])


class Scattered(unittest.TestCase):
    """Texts put together, and spoiled, by scattered numbers, against the plain run."""

    def texts(self, start):
        numbers = spread(400, 10 ** 6, start)
        kind = ("number", "part", "text")[start % 3]
        rows = [f"kind {kind} {2 + start % 63}"]
        while len(rows) < 14:
            pick = numbers.pop()
            words = [GOOD_KEYS[kind][numbers.pop() % 3] for _ in range(pick % 6)]
            if pick % 3 == 0:
                rows.append(" ".join(["row"] + words))
            elif pick % 3 == 1:
                rows.append(" ".join(["pour"] + words + [GOOD_KEYS[kind][0]]))
            else:
                rows.append(EVERY_ASK[numbers.pop() % len(EVERY_ASK)])
        text = "\n".join(rows)
        told = [text]
        for _ in range(12):
            at, sign = numbers.pop() % len(text), " \n-/'0a1bzA;~"[numbers.pop() % 13]
            told += [text[:at] + sign + text[at:], text[:at] + text[at + 1:], text[:at] + sign + text[at + 1:]]
        return told

    def test_against_the_plain_run(self):
        refused = 0
        for start in range(1, 61):
            for text in self.texts(start):
                told = line_or_answers(text)
                self.assertEqual(frozen(told), frozen(plain_run(text)), text)
                refused += type(told) is int
        self.assertGreater(refused, 500)


if __name__ == "__main__":
    unittest.main()
