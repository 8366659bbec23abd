"""Falling rows of groups."""

from whatcounts.base.checks import check_between, check_prime
from whatcounts.group.moves import commutator_of, joint_of, raised_turn, undone_of
from whatcounts.group.spans import TurnSpan
from whatcounts.group.turns import MAX_TURNS, check_group

MAX_FALL = 60


def falling(group, prime, size):
    """The ascending tuple of the turns of D(size)."""
    check_group(group)
    check_prime(prime)
    check_between(size, 1, MAX_FALL)
    row = FallingRow(whole_span(group), prime)
    while len(row.spans) < size:
        row.put_next()
    return row.spans[size - 1].turns()


def fall_sizes(group, prime):
    """The tuple of the numbers of turns of D(1), D(2), .., up to the first one that is 1, or `None`."""
    check_group(group)
    check_prime(prime)
    row = FallingRow(whole_span(group), prime)
    if not is_power(len(row.spans[0].found), prime):
        return None
    while len(row.spans[-1].found) > 1:
        row.put_next()
    return tuple([len(span.found) for span in row.spans])


def fall_depth(group, prime):
    """The greatest n for which D(n) has more than one turn, 0 if there is none, or `None`."""
    sizes = fall_sizes(group, prime)
    return None if sizes is None else len(sizes) - 1


def whole_span(group):
    """The span of all turns of a group."""
    span = TurnSpan(len(group), MAX_TURNS)
    for turn in group.moves.values():
        span.put(turn)
    return span


def is_power(number, prime):
    """Whether a number is a power of a prime."""
    left = number
    while left % prime == 0:
        left = left // prime
    return left == 1


class FallingRow:
    """D(1), D(2), .. of a group, each one told by its span; the first one is the group."""

    def __init__(self, first, prime):
        self.modulus = prime
        self.spans = [first]
        self.known = {}

    def put_next(self):
        """Put the next D(n) to the row."""
        latest = self.spans[-1]
        size = len(self.spans) + 1
        # n divided by the prime, rounded up
        raised = self.spans[(size + self.modulus - 1) // self.modulus - 1]
        # each is a part of those ahead, so that as many turns are the same ones
        key = (len(latest.found), len(raised.found))
        if key not in self.known:
            self.known[key] = self._next(latest, raised)
        self.spans.append(self.known[key])

    def _next(self, latest, raised):
        span = TurnSpan(len(latest.start), MAX_TURNS)
        for turn in list(raised.found):
            span.put(raised_turn(turn, self.modulus))
        moves = list(self.spans[0].kept)
        for turn in list(latest.kept):
            for move in moves:
                span.put(commutator_of(turn, move))
        # all turns of the two kinds are made of these and of what letters make of them
        at = 0
        while at < len(span.kept):
            for move in moves:
                span.put(joint_of(joint_of(move, span.kept[at]), undone_of(move)))
            at = at + 1
        return span
