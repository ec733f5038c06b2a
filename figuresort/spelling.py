"""Keys of each kind, spelled as rows of figures that rise as the keys do."""

from figuresort.figures import figures, many_figures

# One figure for each letter, and nought for what lies behind a text's end.
TEXT_BASE = 27


def common_measure(one, other):
    """The greatest number that goes into both, one from nought on and other above it."""
    greater, less = one, other
    while less > 0:
        greater, less = less, greater % less
    return greater


def least_bottom(parts):
    """The least number above nought that the bottoms of all fractions go into."""
    least = 1
    for top, bottom in parts:
        least = least // common_measure(least, bottom) * bottom
    return least


def whole_numbers(parts):
    """The fractions, each times the least bottom of all."""
    least = least_bottom(parts)
    return [top * (least // bottom) for top, bottom in parts]


def number_rows(numbers, base):
    """A row for each number, by how far it lies above the least."""
    if not numbers:
        return []
    least = min(numbers)
    columns = many_figures(max(numbers) - least, base)
    return [figures(number - least, base, columns) for number in numbers]


def text_row(text, columns):
    """The row of one text, noughts behind its end."""
    before_first = ord("a") - 1
    letters = [ord(letter) - before_first for letter in text]
    return tuple(letters + [0] * (columns - len(text)))


def text_rows(texts):
    """A row for each text, as long as the longest."""
    columns = max([len(text) for text in texts], default=0)
    return [text_row(text, columns) for text in texts]


def spelled(kind, keys, base):
    """The pair (base, rows): the base by which the keys are spelled, and a row for each."""
    if kind == "text":
        return (TEXT_BASE, text_rows(keys))
    if kind == "part":
        return (base, number_rows(whole_numbers(keys), base))
    return (base, number_rows(keys, base))
