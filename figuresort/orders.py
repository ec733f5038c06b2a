"""Orders: at k stands the place from which the thing came that is k-th now."""

from figuresort.errors import BadOrder


def is_order(thing):
    """Whether any thing is an order of some number of things."""
    if not isinstance(thing, (list, tuple)):
        return False
    met = [False] * len(thing)
    for place in thing:
        # Python takes True and False for whole numbers; here they are none.
        if isinstance(place, bool) or not isinstance(place, int):
            return False
        if place < 0 or place >= len(thing) or met[place]:
            return False
        met[place] = True
    return True


def check_order(thing, many):
    """Refuses what is no order of so many things."""
    if not is_order(thing) or len(thing) != many:
        raise BadOrder(f"this is no order of {many} things")


def own_copy(thing):
    """The thing as it is, but for its lists being new ones, however deep they lie."""
    parts = [thing]
    firsts = []
    while len(firsts) < len(parts):
        part = parts[len(firsts)]
        firsts.append(len(parts))
        if isinstance(part, (list, tuple)):
            parts.extend(part)
    # What lies within stands behind what bears it, so from the last on it is new by then.
    for at in range(len(parts) - 1, -1, -1):
        part = parts[at]
        if isinstance(part, list):
            parts[at] = parts[firsts[at]:firsts[at] + len(part)]
        elif isinstance(part, tuple):
            parts[at] = tuple(parts[firsts[at]:firsts[at] + len(part)])
    return parts[0]


def put(things, order):
    """The list of things in that order."""
    check_order(order, len(things))
    # A list among the things is copied, as what is told is the asker's own.
    return [own_copy(things[place]) for place in order]


def back_of(order):
    """The order that puts all back."""
    if not is_order(order):
        raise BadOrder("this is no order")
    back = [0] * len(order)
    for at, place in enumerate(order):
        back[place] = at
    return back


def after(one, other):
    """The order that comes of putting by one and then by other."""
    if not is_order(one):
        raise BadOrder("this is no order")
    check_order(other, len(one))
    return [one[place] for place in other]


def rings(order):
    """The list of rings of an order, each from its least place on."""
    met = [False] * len(order)
    told = []
    for first in range(len(order)):
        ring = []
        place = first
        while not met[place]:
            met[place] = True
            ring.append(place)
            place = order[place]
        if len(ring) > 1:
            told.append(ring)
    return told


def told_order(rows):
    """The order by which rows rise, like ones as they stood."""
    # A row may be handed in as a list, and Python puts no list beside a tuple.
    return sorted(range(len(rows)), key=lambda place: tuple(rows[place]))


def shows_order(rows, order):
    """Whether any thing is the order by which rows rise."""
    return is_order(order) and list(order) == told_order(rows)
