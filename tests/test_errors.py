"""The refusals' classes."""

import unittest

from figuresort.errors import BadOrder, BadRow, NotRising, SortError, TooGreat

REFUSALS = (TooGreat, BadOrder, NotRising, BadRow)


class Classes(unittest.TestCase):
    def test_all_stand_straight_under_sort_error(self):
        for refusal in REFUSALS:
            self.assertEqual(refusal.__bases__, (SortError,))

    def test_sort_error_stands_straight_under_value_error(self):
        self.assertEqual(SortError.__bases__, (ValueError,))

    def test_none_is_of_another_ones_class(self):
        for one in REFUSALS:
            for other in REFUSALS:
                self.assertEqual(issubclass(one, other), one is other)

    def test_made_with_words(self):
        for refusal in (TooGreat, BadOrder, SortError):
            with self.assertRaises(SortError) as caught:
                raise refusal("some words")
            self.assertIs(type(caught.exception), refusal)
            self.assertEqual(str(caught.exception), "some words")

    def test_not_rising_has_its_place(self):
        for place in (0, 1, 199):
            with self.assertRaises(NotRising) as caught:
                raise NotRising(place)
            self.assertEqual(caught.exception.place, place)

    def test_bad_row_has_its_line(self):
        for line in (0, 1, 60):
            with self.assertRaises(BadRow) as caught:
                raise BadRow(line)
            self.assertEqual(caught.exception.line, line)


if __name__ == "__main__":
    unittest.main()
