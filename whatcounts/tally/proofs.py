"""Proofs that rows of integers are sums of multiples, by fractions, of others."""

from math import lcm

from whatcounts.tally.lifts import Lift, common_numbers, inverse_square
from whatcounts.tally.spans import first_place
from whatcounts.tally.squares import dot, turned_square

FEW_BITS = 8000


class Found:
    """Rows of integers that are no sums of multiples of one another; they are told by their numbers at the pivots.

    The square table of these numbers has an inverse modulo a prime.
    """

    def __init__(self, rows, pivots, square, inverse, prime):
        self.rows = rows
        self.pivots = pivots
        self.square = square
        self.inverse = inverse
        self.modulus = prime

    def at_pivots(self, row):
        """The numbers of a row at the pivots."""
        return [row[pivot] for pivot in self.pivots]

    def places(self):
        """The places that are no pivots."""
        return [at for at in range(len(self.rows[0])) if at not in self.pivots]

    def at_place(self, place, rows, most):
        """How in the rows found, and in others, the number at a place is told by those at the pivots: a number, and
        the integers that are so many times the factors. `None` if it is not, or not by factors of so few bits.
        """
        lift = Lift(self.square, self.inverse, [row[place] for row in self.rows], self.modulus)
        return lift.solution([(self.at_pivots(row), row[place]) for row in self.rows + rows], most)

    def has_sum(self, row):
        """Whether a row is a sum of multiples of the rows found."""
        lift = Lift(turned_square(self.square), turned_square(self.inverse), self.at_pivots(row), self.modulus)
        return lift.solution(list(zip(turned_square(self.rows), row)), None) is not None


def found_by(rows, span):
    """The rows found, by a span that has their rests."""
    pivots = list(span.rows)
    square = [[row[pivot] for pivot in pivots] for row in rows]
    return Found(rows, pivots, square, inverse_square(square, span.modulus), span.modulus)


def are_sums(found, sums, span):
    """Whether some rows are sums of multiples of those found, of which the span has the rests."""
    rows = [row for row in sums if first_place(row) is not None]
    if not rows or not found:
        return not rows
    if small_basis(found + rows, span) is not None:
        return True
    told = found_by(found, span)
    # either way is a proof: one by one place, or one by one row
    places = told.places()
    if len(places) < len(rows):
        return all([told.at_place(place, rows, None) is not None for place in places])
    return all([told.has_sum(row) for row in rows])


def small_basis(rows, span):
    """The rows of integers that the rests of a span stand for, all with the same number at their pivots, if all rows
    are sums of multiples of them; otherwise `None`.
    """
    width = len(rows[0])
    whole = common_numbers([number for own in span.rows.values() for number in own], span.modulus)
    if whole is None:
        return None
    common, numbers = whole
    basis = tuple([tuple(numbers[at * width:(at + 1) * width]) for at in range(len(span.rows))])
    pivots = list(span.rows)
    columns = turned_square(basis)
    for row in rows:
        times = [row[pivot] for pivot in pivots]
        if not all([common * number == dot(times, column) for number, column in zip(row, columns)]):
            return None
    return basis


def basis_of_rows(found, span):
    """A basis of what the rows found are, with numbers as small as can be; the rows themselves if these are great."""
    if not found:
        return ()
    basis = small_basis(found, span)
    if basis is not None:
        return basis
    told = found_by(found, span)
    factors = {}
    for place in told.places():
        factors[place] = told.at_place(place, [], FEW_BITS)
        if factors[place] is None:
            return tuple(found)
    return basis_by_places(told.pivots, factors, len(found[0]))


def basis_by_places(pivots, factors, width):
    """The basis with the same number at all pivots that tells by these factors the numbers at all other places."""
    common = 1
    for below, _ in factors.values():
        common = lcm(common, below)
    basis = []
    for at, pivot in enumerate(pivots):
        row = [0 for _ in range(width)]
        row[pivot] = common
        for place, (below, above) in factors.items():
            row[place] = above[at] * (common // below)
        basis.append(tuple(row))
    return tuple(basis)
