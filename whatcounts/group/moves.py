"""Turns: tuples in which each point stands once."""

from math import lcm


def still_turn(points):
    """The turn that leads no point away."""
    return tuple(range(points))


def joint_of(one, other):
    """The turn that leads by the first one and then by the second one."""
    return tuple([other[point] for point in one])


def undone_of(turn):
    """The turn that leads back."""
    back = {led: point for point, led in enumerate(turn)}
    return tuple([back[point] for point in range(len(turn))])


def cycles_of(turn):
    """The list of the rows of points in which each is led to the next one, and the last one to the first one."""
    cycles = []
    seen = {}
    for start in range(len(turn)):
        cycle = []
        point = start
        while point not in seen:
            seen[point] = True
            cycle.append(point)
            point = turn[point]
        if cycle:
            cycles.append(cycle)
    return cycles


def order_of(turn):
    """The least number, at least 1, of times after which a turn leads all points back."""
    order = 1
    for cycle in cycles_of(turn):
        order = lcm(order, len(cycle))
    return order


def raised_turn(turn, number):
    """The turn that leads as so many of a turn do, or as so many of it undone."""
    led = {}
    for cycle in cycles_of(turn):
        for at, point in enumerate(cycle):
            led[point] = cycle[(at + number) % len(cycle)]
    return tuple([led[point] for point in range(len(turn))])


def do_commute(one, other):
    """Whether two turns lead to the same in either order."""
    return joint_of(one, other) == joint_of(other, one)


def commutator_of(one, other):
    """The turn that leads by two turns, by the first one undone, and by the second one undone."""
    return joint_of(joint_of(one, other), joint_of(undone_of(one), undone_of(other)))


def first_turn_texts(moves, most):
    """The dict from each turn of texts to the first such text, in the order of the texts; it ends when there are
    more than so many turns.
    """
    start = still_turn(max([len(turn) for turn in moves.values()]))
    texts = {start: ""}
    found = [start]
    at = 0
    while at < len(found) and len(found) <= most:
        for letter, move in moves.items():
            turn = joint_of(found[at], move)
            if turn not in texts:
                texts[turn] = texts[found[at]] + letter
                found.append(turn)
        at = at + 1
    return texts
