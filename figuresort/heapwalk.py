"""Things that go to the parts of their figures by one hand, within their own row."""

from figuresort.counts import begins, counts
from figuresort.firstfirst import from_first
from figuresort.orders import own_copy


def puts_ahead(table):
    """How many things will be laid or changed: those that stand in another part than their figure's."""
    return sum([sum(often) - often[part] for part, often in enumerate(table)])


class HeapWalk:
    """Pairs (figure, thing) on their way to their figures' parts, a move at a time."""

    def __init__(self, row, base):
        often = counts([figure for figure, thing in row], base)
        self.pairs = [(figure, own_copy(thing)) for figure, thing in row]
        self.held = None
        self.marks = begins(often)
        self.ends = [begin + many for begin, many in zip(begins(often), often)]
        self.many_puts = 0

    def mark_of(self, figure):
        """The mark of a figure's part, gone on as long as that figure stands at it."""
        place = self.marks[figure]
        while place < self.ends[figure] and self.stands(figure, place):
            place += 1
        self.marks[figure] = place
        return place

    def stands(self, figure, place):
        """Whether a thing of that figure stands at the place."""
        pair = self.pairs[place]
        return pair is not None and pair[0] == figure

    def step(self):
        """Does the next move and tells it, None where all is done."""
        if self.held is None:
            return self.take_first()
        return self.put_held()

    def take_first(self):
        """Takes in hand what stands at the first mark that isn't at its part's end."""
        for figure in range(len(self.ends)):
            place = self.mark_of(figure)
            if place < self.ends[figure]:
                self.held = self.pairs[place]
                self.pairs[place] = None
                return ("take", place)
        return None

    def put_held(self):
        """Puts the hand's thing at its part's mark, and takes in hand what stands there."""
        figure = self.held[0]
        place = self.mark_of(figure)
        there = self.pairs[place]
        self.pairs[place] = self.held
        self.held = there
        self.marks[figure] += 1
        self.many_puts += 1
        if there is None:
            return ("lay", place)
        return ("change", place)

    def row(self):
        """The list of the pairs at the places, None at an empty one."""
        return [own_copy(pair) for pair in self.pairs]

    def hand(self):
        """The hand's pair, None where it has none."""
        return own_copy(self.held)

    def puts(self):
        """How many were laid or changed so far."""
        return self.many_puts


def walked(row, base):
    """The HeapWalk of a row, at its end."""
    walk = HeapWalk(row, base)
    while walk.step() is not None:
        pass
    return walk


def heap_sorted(rows, base):
    """The pair (rows, puts): the rows rising, and how many puts all their HeapWalks had together."""
    rising = [tuple(row) for row in rows]
    all_puts = 0
    # Which stretches are parted doesn't hang on how rows stand within them, so these steps hold here too.
    for first, last, column in from_first(rising, base)[1]:
        stretch = rising[first:last]
        walk = walked([(row[column], at) for at, row in enumerate(stretch)], base)
        rising[first:last] = [stretch[at] for figure, at in walk.row()]
        all_puts += walk.puts()
    return (rising, all_puts)
