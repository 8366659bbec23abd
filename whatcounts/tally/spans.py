"""Rows of numbers, and whether others are sums of multiples of them."""

from math import gcd, isqrt


class RestSpan:
    """Rows of rests modulo a prime, in reduced form: each has 1 at its pivot, where all others have 0."""

    def __init__(self, prime):
        self.modulus = prime
        self.rows = {}

    def left(self, row):
        """What is left of a row when multiples of the rows are taken away: 0 at all pivots."""
        rests = [number % self.modulus for number in row]
        for pivot, own in self.rows.items():
            if rests[pivot] != 0:
                rests = taken_away(rests, own, rests[pivot], self.modulus)
        return rests

    def put(self, rests):
        """Put what is left of a row to the rows, unless it is 0 at all places."""
        pivot = first_place(rests)
        if pivot is not None:
            inverse = inverse_of(rests[pivot], self.modulus)
            new = [number * inverse % self.modulus for number in rests]
            for at, own in list(self.rows.items()):
                if own[pivot] != 0:
                    self.rows[at] = taken_away(own, new, own[pivot], self.modulus)
            self.rows[pivot] = new


class WholeSpan:
    """Rows of integers, none of which is a sum of multiples, by fractions, of the others."""

    def __init__(self):
        self.rows = {}

    def left(self, row):
        """A multiple of what is left of a row when multiples of the rows are taken away."""
        numbers = list(row)
        for pivot, own in self.rows.items():
            if numbers[pivot] != 0:
                common = gcd(numbers[pivot], own[pivot])
                times, other = own[pivot] // common, numbers[pivot] // common
                numbers = shortened([times * left - other * right for left, right in zip(numbers, own)])
        return numbers

    def put(self, numbers):
        """Put what is left of a row to the rows, unless it is 0 at all places."""
        pivot = first_place(numbers)
        if pivot is not None:
            self.rows[pivot] = shortened(numbers)


def taken_away(row, other, times, prime):
    """The rests of a row without so many times another one."""
    return [(left - times * right) % prime for left, right in zip(row, other)]


def first_place(row):
    """The first place at which a row is not 0, or `None`."""
    for at, number in enumerate(row):
        if number != 0:
            return at
    return None


def shortened(row):
    """The row divided by the greatest number that divides all of it."""
    common = 0
    for number in row:
        common = gcd(common, number)
    return [number // common for number in row] if common > 1 else row


def inverse_of(number, prime):
    """The rest whose product with a rest that is not 0 is 1."""
    one, other = prime, number % prime
    times, next_times = 0, 1
    while other != 0:
        share = one // other
        one, other = other, one - share * other
        times, next_times = next_times, times - share * next_times
    return times % prime


def fraction_of(rest, modulus):
    """The fraction, as a numerator and a denominator, that a rest is, both as small as they must be to be only one.

    `None` if there is no such fraction.
    """
    most = isqrt(modulus // 2)
    one, other = modulus, rest % modulus
    times, next_times = 0, 1
    while other > most:
        share, less = divmod(one, other)
        one, other = other, less
        times, next_times = next_times, times - share * next_times
    if abs(next_times) > most or gcd(other, next_times) != 1:
        return None
    return (other, next_times) if next_times > 0 else (-other, -next_times)


def nearest(number, modulus):
    """The integer with the rest of a number that is nearest to 0."""
    rest = number % modulus
    return rest - modulus if 2 * rest > modulus else rest
