"""Rows poured in by and by, kept in rising heaps."""

from figuresort.orders import told_order
from figuresort.runs import merged_places


def is_due(lengths):
    """Whether the last two heaps become one, told by the lengths of all."""
    return len(lengths) > 1 and lengths[-1] >= lengths[-2]


def ahead_of_pours(lengths):
    """The pair (heaps, moves) as they will be, from how many rows are poured each time."""
    heaps = []
    moves = 0
    for length in lengths:
        heaps.append(length)
        while is_due(heaps):
            last = heaps.pop()
            heaps[-1] += last
            moves += heaps[-1]
    return (heaps, moves)


class Pour:
    """All rows that were poured, in heaps, each of them rising."""

    def __init__(self):
        self.came = []
        # A heap is kept as the places of its rows among those that came.
        self.heaped = []
        self.moved = 0

    def pour(self, rows):
        """Makes a heap of the rows, and tells how many rows the heaps that became one had together."""
        ahead = len(self.came)
        self.came.extend([tuple(row) for row in rows])
        self.heaped.append([ahead + place for place in told_order(rows)])
        moves = 0
        while is_due(self.heaps()):
            self.merge_last_two()
            moves += len(self.heaped[-1])
        self.moved += moves
        return moves

    def merge_last_two(self):
        """Makes one heap of the last two, of like rows those of the one ahead first."""
        last = self.heaped.pop()
        self.heaped[-1] = merged_places(self.came, self.heaped[-1], last)

    def heaps(self):
        """The list of how many rows each heap has."""
        return [len(places) for places in self.heaped]

    def order(self):
        """The order by which all rows rise, like ones as they came."""
        places = []
        # Heaps grow shorter to the last, so from there on the fewest rows are gone through again.
        for heap in self.heaped[::-1]:
            places = merged_places(self.came, heap, places)
        return places

    def rows(self):
        """The list of all rows, rising."""
        return [self.came[place] for place in self.order()]

    def moves(self):
        """How many moves there were so far."""
        return self.moved
