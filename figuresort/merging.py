"""Many rising lists of rows merged into one."""

from figuresort.errors import NotRising
from figuresort.runs import runs


def check_rising(lists):
    """Refuses lists of which one doesn't rise."""
    for place, rows in enumerate(lists):
        if len(runs(rows)) > 1:
            raise NotRising(place)


def place_among(heads, head):
    """The place at which a head belongs among falling ones."""
    low, high = 0, len(heads)
    while low < high:
        middle = (low + high) // 2
        if heads[middle] > head:
            low = middle + 1
        else:
            high = middle
    return low


class Merge:
    """Rising lists of rows, told row by row."""

    def __init__(self, lists):
        check_rising(lists)
        self.lists = [[tuple(row) for row in rows] for rows in lists]
        self.marks = [0] * len(lists)
        # Pairs (row, number of its list) of each list's next row, falling: the last one is the least.
        self.heads = []
        for number in range(len(lists)):
            self.show_head(number)

    def show_head(self, number):
        """Puts a list's next row, if it has one, among the heads."""
        rows = self.lists[number]
        mark = self.marks[number]
        if mark < len(rows):
            head = (rows[mark], number)
            self.heads.insert(place_among(self.heads, head), head)

    def next(self):
        """The pair (number of the list, row) of the least row that is left, None behind the last."""
        if not self.heads:
            return None
        row, number = self.heads.pop()
        self.marks[number] += 1
        self.show_head(number)
        return (number, row)

    def left(self):
        """The list of how many rows each list has left."""
        return [len(rows) - mark for rows, mark in zip(self.lists, self.marks)]


def many_merged(lists):
    """The list of all pairs (number of the list, row), rising."""
    merge = Merge(lists)
    told = []
    pair = merge.next()
    while pair is not None:
        told.append(pair)
        pair = merge.next()
    return told
