"""Of point 16 what words.py reads, and of point 17 what it writes."""

import unittest

from figuresort.words import (
    is_kind, is_number, read_keys, read_number, read_part, read_text, write_key, write_keys, write_row, write_rows,
)
from helper import check_answer_is_own, frozen, key_samples

MOST = 10 ** 18 - 1

NUMBERS = (0, 1, -1, 9, 10, -10, 101, 10 ** 17, MOST, -MOST, 123456789012345678)

NO_NUMBERS = (
    "", "-", "-0", "00", "01", "-01", "007", "+1", "--1", "1-", "1.0", "1_0", "1e3", "0x1", "a", "'", "1a", "a1", " ",
    " 1", "1 ", "1/2", str(10 ** 18), str(-10 ** 18), "1" * 19, "-" + "9" * 19, "0" * 18, "-" + "0" * 3, "1,0", "/",
)

NO_PARTS = NO_NUMBERS[:19] + (
    "1/1", "2/4", "1/61", "1/-2", "0/2", "0/60", "1/0", "1/", "/2", "/", "1//2", "1/2/3", "-0/2", "01/2", "1/02",
    "1/+2",
    "-1/1", "6/3", "60/60", "-2/60", "1/100", "1/a", "a/2", "1/ 2", "1 /2", f"{10 ** 18}/7", "1/-", "-/2", "1/600",
    "0/1", "1/1000000000000000000", "'a/2", "1/2'",
)

NO_TEXTS = (
    "", "a", "abc", "''", "'a'", "'A", "'aB", "'a1", "'1", "'a b", " '", "' ", "'-", "'" + "a" * 21, "'" + "z" * 200,
    "-", "0", "'a-b", "'{", "'`", "'@", "'[", "\"a", "a'", "'~",
)


class Numbers(unittest.TestCase):
    def test_read(self):
        for number in NUMBERS:
            self.assertIs(is_number(str(number)), True)
            self.assertEqual(frozen(read_number(str(number))), frozen(number))

    def test_not_so_written(self):
        for word in NO_NUMBERS:
            self.assertIs(is_number(word), False, word)
            self.assertIsNone(read_number(word), word)

    def test_signs_from_the_blank_on(self):
        for sign in (chr(code) for code in range(32, 127)):
            for word in (sign, "1" + sign, sign + "1", "1" + sign + "1"):
                rightly = word.lstrip("-").isdigit() and str(int(word.lstrip("-"))) == word.lstrip("-") \
                    and word.count("-") == word.startswith("-") and word != "-0"
                self.assertIs(is_number(word), rightly, word)


class Parts(unittest.TestCase):
    def test_read(self):
        for word, part in (
            ("0", (0, 1)), ("-1", (-1, 1)), ("7", (7, 1)), ("1/2", (1, 2)), ("-1/60", (-1, 60)), ("59/60", (59, 60)),
            (f"{MOST}/2", (MOST, 2)), (f"-{MOST}/59", (-MOST, 59)), (str(MOST), (MOST, 1)), ("61/60", (61, 60)),
        ):
            self.assertEqual(frozen(read_part(word)), frozen(part))

    def test_not_so_written(self):
        for word in NO_PARTS:
            self.assertIsNone(read_part(word), word)

    def test_in_lowest_terms(self):
        for top in range(-60, 61):
            for bottom in range(0, 70):
                lowest = not [n for n in range(2, 71) if top % n == 0 and bottom % n == 0]
                rightly = (top, bottom) if 2 <= bottom <= 60 and lowest else None
                self.assertEqual(read_part(f"{top}/{bottom}"), rightly)


class Texts(unittest.TestCase):
    def test_read(self):
        for text in ("", "a", "z", "fig", "a" * 20, "abcdefghijklmnopqrst", "uvwxyz"):
            self.assertEqual(frozen(read_text("'" + text)), frozen(text))

    def test_not_so_written(self):
        for word in NO_TEXTS:
            self.assertIsNone(read_text(word), word)

    def test_signs_from_the_blank_on(self):
        for sign in (chr(code) for code in range(32, 127)):
            for text in (sign, sign + "a", "a" + sign, "a" + sign + "z"):
                self.assertEqual(read_text("'" + text), text if "a" <= sign <= "z" else None)
            self.assertEqual(read_text(sign), "" if sign == "'" else None)


class Keys(unittest.TestCase):
    def test_kinds(self):
        for word in ("number", "part", "text"):
            self.assertIs(is_kind(word), True)
        for word in ("", "Number", "numbers", "num", "kind", "10", "'text", "fraction"):
            self.assertIs(is_kind(word), False)

    def test_read(self):
        self.assertEqual(frozen(read_keys("number", ["3", "-1", "0"])), frozen([3, -1, 0]))
        self.assertEqual(frozen(read_keys("part", ["3", "-1/2"])), frozen([(3, 1), (-1, 2)]))
        self.assertEqual(frozen(read_keys("text", ["'", "'b"])), frozen(["", "b"]))
        for kind in ("number", "part", "text"):
            self.assertEqual(frozen(read_keys(kind, [])), frozen([]))

    def test_not_so_written(self):
        for kind, words in (("number", ["1", ""]), ("number", ["1/2"]), ("number", ["'a"]), ("part", ["1/2", "2/4"]),
                            ("part", ["'"]), ("text", ["'a", "1"]), ("text", [""]), ("number", ["01", "1"])):
            self.assertIsNone(read_keys(kind, words))

    def test_written_as_they_are_read(self):
        for kind, word in (("number", "0"), ("number", str(-MOST)), ("part", "0"), ("part", "-5"), ("part", "-7/60"),
                           ("part", f"{MOST}/2"), ("text", "'"), ("text", "'fig")):
            self.assertEqual(write_key(kind, read_keys(kind, [word])[0]), word)
        for kind, keys, _ in key_samples():
            written = write_keys(kind, keys)
            self.assertEqual(read_keys(kind, [] if written == "-" else written.split(" ")), keys)

    def test_own(self):
        check_answer_is_own(self, read_keys, "part", ["3", "-1/2"])


class Rows(unittest.TestCase):
    def test_written(self):
        self.assertEqual(write_row([3, "a", 0]), "3 a 0")
        self.assertEqual(write_rows([[0, 1], ("take", 5)]), "0 1 ; take 5")
        self.assertEqual(write_rows([[0]]), "0")

    def test_what_is_empty(self):
        self.assertEqual((write_row([]), write_rows([]), write_keys("text", [])), ("-", "-", "-"))
        self.assertEqual((write_row([0]), write_keys("text", [""]), write_keys("number", [0])), ("0", "'", "0"))


if __name__ == "__main__":
    unittest.main()
