"""A desk: deeds and asks read from a text, and the asks answered."""

from figuresort.errors import BadRow
from figuresort.heapwalk import heap_sorted
from figuresort.orders import back_of, put, rings, told_order
from figuresort.pouring import Pour
from figuresort.ringwalk import RingWalk
from figuresort.spelling import spelled
from figuresort.ways import WAYS, cheapest, moves_ahead, ordered
from figuresort.words import is_kind, read_keys, read_number, write_keys, write_row, write_rows

LEAST_BASE = 2
MOST_BASE = 64
MOST_KEYS = 200


class Desk:
    """What lies on the desk: the row's keys, and the keys of each pouring."""

    def __init__(self, kind, base):
        self.kind = kind
        self.base = base
        self.laid = []
        self.pourings = []


def rows_of(desk):
    """The pair (base, rows) of the row's keys, spelled."""
    return spelled(desk.kind, desk.laid, desk.base)


def order_of(desk):
    """The order by which the row's keys rise."""
    return told_order(rows_of(desk)[1])


def poured_keys(desk):
    """All keys that were poured, as they came."""
    return [key for keys in desk.pourings for key in keys]


def pour_of(desk):
    """A Pour that has all keys that were poured, spelled together, those of each pouring at once."""
    rows = spelled(desk.kind, poured_keys(desk), desk.base)[1]
    pour = Pour()
    first = 0
    for keys in desk.pourings:
        pour.pour(rows[first:first + len(keys)])
        first += len(keys)
    return pour


def answer_sort(desk, way):
    """The row's keys in order."""
    return write_keys(desk.kind, ordered(way, desk.kind, desk.laid, desk.base)[0])


def answer_order(desk):
    """The order's numbers."""
    return write_row(order_of(desk))


def answer_back(desk):
    """The numbers of the order's way back."""
    return write_row(back_of(order_of(desk)))


def answer_rings(desk):
    """The places of each ring of the order."""
    return write_rows(rings(order_of(desk)))


def answer_ahead(desk):
    """Each way and how many moves it will need."""
    return write_row([word for pair in moves_ahead(desk.kind, desk.laid, desk.base) for word in pair])


def answer_cheapest(desk):
    """The way of the least moves."""
    return cheapest(desk.kind, desk.laid, desk.base)[0]


def answer_walk(desk):
    """The moves by which the row's keys go to their places, ring by ring."""
    walk = RingWalk(desk.laid, order_of(desk))
    moves = [walk.step() for turn in range(walk.left())]
    return write_rows(moves)


def answer_puts(desk):
    """How many puts the row needs by parted heaps."""
    base, rows = rows_of(desk)
    return str(heap_sorted(rows, base)[1])


def answer_poured(desk):
    """The keys that were poured, in order."""
    return write_keys(desk.kind, put(poured_keys(desk), pour_of(desk).order()))


def answer_heaps(desk):
    """The lengths of the heaps."""
    return write_row(pour_of(desk).heaps())


ASKS = {
    "order": answer_order, "back": answer_back, "rings": answer_rings, "ahead": answer_ahead,
    "cheapest": answer_cheapest, "walk": answer_walk, "puts": answer_puts, "poured": answer_poured,
    "heaps": answer_heaps,
}


def read_kind(words):
    """The pair (kind, base) of the kind row, None where it isn't so written."""
    if len(words) != 3 or words[0] != "kind" or not is_kind(words[1]):
        return None
    base = read_number(words[2])
    if base is None or base < LEAST_BASE or base > MOST_BASE:
        return None
    return (words[1], base)


def read_deed(kind, words, room):
    """The pair (deed, its keys), None where it isn't so written; room is how many may still be poured."""
    keys = read_keys(kind, words[1:])
    if keys is None:
        return None
    if words[0] == "row" and len(keys) <= MOST_KEYS:
        return ("row", keys)
    if words[0] == "pour" and len(keys) >= 1 and len(keys) <= room:
        return ("pour", keys)
    return None


def read_ask(words):
    """The pair (ask, the way it names or None), None where it isn't so written."""
    if len(words) == 1 and words[0] in ASKS:
        return (words[0], None)
    if len(words) == 2 and words[0] == "sort" and words[1] in WAYS:
        return ("sort", words[1])
    return None


def read_deeds(kind, numbered):
    """The list of the deeds and asks of pairs (number of the row, its words)."""
    deeds = []
    room = MOST_KEYS
    for line, words in numbered:
        deed = read_ask(words) or read_deed(kind, words, room)
        if deed is None:
            raise BadRow(line)
        if deed[0] == "pour":
            room -= len(deed[1])
        deeds.append(deed)
    return deeds


def read_rows(text):
    """The pair ((kind, base), deeds) of a text, refused where a row isn't so written."""
    rows = text.split("\n")
    numbered = [(line, row.split(" ")) for line, row in enumerate(rows) if row != ""]
    if not numbered:
        raise BadRow(len(rows))
    line, words = numbered[0]
    head = read_kind(words)
    if head is None:
        raise BadRow(line)
    return (head, read_deeds(head[0], numbered[1:]))


def answered(desk, ask, way):
    """The answer to an ask."""
    if ask == "sort":
        return answer_sort(desk, way)
    answer = ASKS[ask]
    return answer(desk)


def run(text):
    """The list of the answers, a text for each ask."""
    (kind, base), deeds = read_rows(text)
    desk = Desk(kind, base)
    answers = []
    for word, given in deeds:
        if word == "row":
            desk.laid = given
        elif word == "pour":
            desk.pourings.append(given)
        else:
            answers.append(answered(desk, word, given))
    return answers
