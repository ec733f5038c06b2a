"""Words of a desk's text: keys and numbers read and written, answers put together."""

from figuresort.spelling import common_measure

FIGURES = "0123456789"
LETTERS = "abcdefghijklmnopqrstuvwxyz"
MOST_FIGURES = 18
MOST_LETTERS = 20
MOST_BOTTOM = 60


def is_made_of(word, signs):
    """Whether all signs of a word are among these."""
    return all([sign in signs for sign in word])


def is_number(word):
    """Whether a word is written as a NUMBER."""
    size = word.removeprefix("-")
    if len(size) < 1 or len(size) > MOST_FIGURES or not is_made_of(size, FIGURES):
        return False
    return size[0] != "0" or word == "0"


def read_number(word):
    """The number of a word, None where it isn't so written."""
    if not is_number(word):
        return None
    return int(word)


def read_part(word):
    """The fraction of a word, None where it isn't so written."""
    top_word, slash, bottom_word = word.partition("/")
    top = read_number(top_word)
    if top is None:
        return None
    if slash == "":
        return (top, 1)
    bottom = read_number(bottom_word)
    if bottom is None or bottom < 2 or bottom > MOST_BOTTOM or common_measure(abs(top), bottom) > 1:
        return None
    return (top, bottom)


def read_text(word):
    """The text of a word, None where it isn't so written."""
    letters = word[1:]
    if not word.startswith("'") or len(letters) > MOST_LETTERS or not is_made_of(letters, LETTERS):
        return None
    return letters


READERS = {"number": read_number, "part": read_part, "text": read_text}


def is_kind(word):
    """Whether a word is the name of a kind."""
    return word in READERS


def read_keys(kind, words):
    """The list of the keys of these words, None where one isn't so written."""
    read = READERS[kind]
    keys = []
    for word in words:
        key = read(word)
        if key is None:
            return None
        keys.append(key)
    return keys


def write_part(part):
    """A fraction as it is read."""
    top, bottom = part
    if bottom == 1:
        return str(top)
    return f"{top}/{bottom}"


def write_key(kind, key):
    """A key as it is read."""
    if kind == "part":
        return write_part(key)
    if kind == "text":
        return f"'{key}"
    return str(key)


def write_keys(kind, keys):
    """Keys, a blank between."""
    return write_row([write_key(kind, key) for key in keys])


def write_row(things):
    """Words and numbers, a blank between, what is empty as a stroke."""
    return " ".join([str(thing) for thing in things]) or "-"


def write_rows(rows):
    """Rows of words and numbers, none of them empty, a semicolon between."""
    return " ; ".join([write_row(row) for row in rows]) or "-"
