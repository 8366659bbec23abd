"""Integers that rests modulo a great prime stand for."""

from whatcounts.tally.spans import fraction_of
from whatcounts.tally.squares import dot


def common_rows(span):
    """The tuple of rows of integers, all with the same number at their pivots, whose fractions by that number have
    the rests of the rows of a span; `None` if the prime is too small to tell them.
    """
    prime = span.modulus
    common = 1
    for row in span.rows.values():
        for rest in row:
            near = nearest(rest * common, prime)
            if 2 * near * near > prime:
                fraction = fraction_of(near, prime)
                if fraction is None:
                    return None
                common = common * fraction[1]
    return tuple([tuple([nearest(number * common, prime) for number in own]) for own in span.rows.values()])


def nearest(number, prime):
    """The integer with the rest of a number that is nearest to 0."""
    rest = number % prime
    return rest - prime if 2 * rest > prime else rest


def is_combined(row, pivots, basis):
    """Whether a row is a sum of multiples of the rows of a basis, all with the same number at their pivots."""
    if not basis:
        return not any([number != 0 for number in row])
    common = basis[0][pivots[0]]
    times = [row[pivot] for pivot in pivots]
    return all([common * number == dot(times, column) for number, column in zip(row, zip(*basis))])
