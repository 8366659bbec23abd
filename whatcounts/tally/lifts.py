"""Solutions of equations, exactly, by rests modulo growing powers of a prime."""

from whatcounts.tally.spans import RestSpan, fraction_of, nearest
from whatcounts.tally.squares import dot, unit_row


class Lift:
    """The numbers whose products with the rows of a square table are the numbers at the right.

    The inverse of the table is one modulo the prime.
    """

    def __init__(self, square, inverse, right, prime):
        self.square = square
        self.inverse = inverse
        self.rest = list(right)
        self.modulus = prime
        self.reach = 1
        self.told = [0 for _ in right]
        # in a fraction that solves the equations neither part has more bits
        self.bits = sum([longest(row, number) + len(row).bit_length() for row, number in zip(square, right)])

    def go_on(self, steps):
        """Tell the solution modulo a power of the prime that is so many times the prime greater."""
        for _ in range(steps):
            rests = [number % self.modulus for number in self.rest]
            digits = [dot(row, rests) % self.modulus for row in self.inverse]
            self.told = [number + digit * self.reach for number, digit in zip(self.told, digits)]
            self.rest = [(number - dot(row, digits)) // self.modulus for number, row in zip(self.rest, self.square)]
            self.reach = self.reach * self.modulus

    def is_at_end(self):
        """Whether no other fractions can have these rests."""
        return self.reach.bit_length() > 2 * self.bits + 2

    def solution(self, parts, most):
        """The solution, as a number and the integers that are so many times it, if it solves these equations as well:
        pairs of a row and a number. `None` if it does not, or if no more than so many bits do not tell it.
        """
        steps = 1
        while not self.is_at_end() and (most is None or self.reach.bit_length() < most):
            self.go_on(steps)
            steps = steps * 2
            whole = common_numbers(self.told, self.reach)
            if whole is not None and all([whole[0] * number == dot(row, whole[1]) for row, number in parts]):
                return whole
        return None


def longest(row, number):
    """The bits of the longest number among those of a row and another one."""
    return max([part.bit_length() for part in row] + [number.bit_length()])


def common_numbers(rests, modulus):
    """A number, and the integers whose fractions by it have these rests; `None` if they would be too great."""
    common = 1
    for rest in rests:
        near = nearest(rest * common, modulus)
        if 2 * near * near > modulus:
            fraction = fraction_of(near, modulus)
            if fraction is None or 2 * (common * fraction[1]) ** 2 > modulus:
                return None
            common = common * fraction[1]
    return common, [nearest(rest * common, modulus) for rest in rests]


def inverse_square(square, prime):
    """The table whose product with a square table is the unit table modulo a prime."""
    span = RestSpan(prime)
    many = len(square)
    for at, row in enumerate(square):
        span.put(span.left(list(row) + list(unit_row(at, many))))
    return [span.rows[at][many:] for at in range(many)]
