"""Things that go to their places by one hand, ring by ring."""

from figuresort.orders import check_order, own_copy, rings


def moves_of_ring(ring):
    """The list of the moves by which the things of one ring go to their places."""
    told = [("take", ring[0])]
    for at in range(len(ring) - 1):
        told.append(("move", ring[at + 1], ring[at]))
    told.append(("lay", ring[-1]))
    return told


def ring_moves(order):
    """How many moves all rings of an order need together."""
    return sum([len(ring) + 1 for ring in rings(order)])


class RingWalk:
    """Things on their way into an order, a move at a time."""

    def __init__(self, things, order):
        check_order(order, len(things))
        self.things = [own_copy(thing) for thing in things]
        self.held = None
        self.plan = [move for ring in rings(order) for move in moves_of_ring(ring)]
        self.done = 0

    def step(self):
        """Does the next move and tells it, None where all is done."""
        if self.left() == 0:
            return None
        move = self.plan[self.done]
        self.done += 1
        if move[0] == "take":
            self.held = self.things[move[1]]
            self.things[move[1]] = None
        elif move[0] == "move":
            self.things[move[2]] = self.things[move[1]]
            self.things[move[1]] = None
        else:
            self.things[move[1]] = self.held
            self.held = None
        return move

    def row(self):
        """The list of the things at the places, None at an empty one."""
        return [own_copy(thing) for thing in self.things]

    def hand(self):
        """The hand's thing, None where it has none."""
        return own_copy(self.held)

    def left(self):
        """How many moves are left."""
        return len(self.plan) - self.done
