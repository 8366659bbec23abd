"""How ranks are reckoned: rows of rests, fractions that rests stand for, and what is proved of integers."""

import math
import random
from fractions import Fraction

from tests.helpers import MOST, Case
from tests.test_ranks import Rows, sparse
from whatcounts.tally.lifts import Lift, common_numbers, inverse_square
from whatcounts.tally.proofs import are_sums, small_basis
from whatcounts.tally.lean import columns_of
from whatcounts.tally.ranks import beginning_search
from whatcounts.tally.searches import PRIME_BITS, Search, new_texts, proven, searched
from whatcounts.tally.spans import RestSpan, WholeSpan, first_place, fraction_of, inverse_of, nearest, shortened


def some_rows(width, many, seed, most=3):
    """Rows of which some are sums of multiples of others."""
    source = random.Random(seed)
    rows = []
    for at in range(many):
        row = [source.randint(-most, most) for _ in range(width)]
        if at >= 2 and source.random() < 0.5:
            one, other = source.sample(rows, 2)
            row = [2 * left - 3 * right for left, right in zip(one, other)]
        rows.append(tuple(row))
    return rows


class NumbersTest(Case):
    def test_great_primes(self):
        for bits in PRIME_BITS[:3]:
            # by Lucas and Lehmer: just then are so many bits of 1 a prime
            great, rest = 2 ** bits - 1, 4
            for _ in range(bits - 2):
                rest = (rest * rest - 2) % great
            self.assertEqual(rest, 0)

    def test_inverses(self):
        for prime in (2, 3, 5, 7, 101, 2 ** 127 - 1):
            for number in [*range(1, min(prime, 102)), prime - 1]:
                inverse = inverse_of(number, prime)
                self.assertTrue(0 <= inverse < prime)
                self.assertEqual(number * inverse % prime, 1)
                self.assertEqual(inverse_of(number - prime, prime), inverse)

    def test_fractions(self):
        for prime in (13, 101, 1009):
            most = math.isqrt(prime // 2)
            told = {}
            for below in range(1, most + 1):
                for above in range(-most, most + 1):
                    if math.gcd(above, below) == 1:
                        told[above * pow(below, -1, prime) % prime] = (above, below)
            for rest in range(prime):
                self.assertEqual(fraction_of(rest, prime), told.get(rest))
                self.assertEqual(fraction_of(rest - prime, prime), told.get(rest))
            self.assertTrue(any(rest not in told for rest in range(prime)))

    def test_small_parts(self):
        self.assertEqual([nearest(number, 7) for number in range(-4, 8)], [3, -3, -2, -1, 0, 1, 2, 3, -3, -2, -1, 0])
        self.assertEqual([first_place(row) for row in ((), (0,), (0, 5, 0), (1, 2))], [None, None, 1, 0])
        self.assertEqual([shortened(row) for row in ([], [0, 0], [0, -6, 9], [5, 10], [1, 4])], [[], [0, 0], [0, -2, 3], [1, 2], [1, 4]])


class SpansTest(Case):
    def test_spans(self):
        for seed in range(40):
            rows = some_rows(5, 8, seed)
            for prime in (None, 2, 3, 5, 7, 101):
                span, told = WholeSpan() if prime is None else RestSpan(prime), Rows(prime)
                for row in rows:
                    left = span.left(row)
                    self.assertEqual(first_place(left) is not None, told.takes(row))
                    span.put(left)
                    self.assertEqual(len(span.rows), len(told.rows))
                    self.assertIsNone(first_place(span.left(row)))

    def test_reduced_form(self):
        span = RestSpan(7)
        for row in some_rows(6, 9, 1):
            span.put(span.left(row))
            for pivot, own in span.rows.items():
                self.assertEqual([other[pivot] for other in span.rows.values() if other is not own], [0] * (len(span.rows) - 1))
                self.assertEqual((own[pivot], first_place(own)), (1, pivot))
                self.assertTrue(all(0 <= number < 7 for number in own))

    def test_whole_rows_stay_short(self):
        span = WholeSpan()
        for row in ((6, 12, 18), (10, 0, 5)):
            span.put(span.left(row))
        self.assertEqual(sorted(math.gcd(*row) for row in span.rows.values()), [1, 1])
        self.assertEqual([abs(number) for number in span.rows[0]], [1, 2, 3])


def span_of(rows, prime):
    span = RestSpan(prime)
    for row in rows:
        span.put(span.left(row))
    return span


class LiftsTest(Case):
    def test_common_numbers(self):
        great = 2 ** 127 - 1
        for parts in ([(2, 3), (5, 7), (4, 1), (-1, 21)], [(5, 1), (-9, 1)], [], [(0, 1)], [(1, 6), (1, 4), (-7, 9)]):
            rests = [above * pow(below, -1, great) % great for above, below in parts]
            common, numbers = common_numbers(rests, great)
            self.assertEqual([Fraction(number, common) for number in numbers], [Fraction(*part) for part in parts])
            self.assertTrue(0 < common <= math.prod(below for _, below in parts))
        self.assertEqual(common_numbers([5, -9], great), (1, [5, -9]))
        rest = next(rest for rest in range(101) if fraction_of(rest, 101) is None)
        self.assertIsNone(common_numbers([1, rest], 101))

    def test_inverse_squares(self):
        for prime in (2, 3, 7, 2 ** 127 - 1):
            for seed in range(10):
                source = random.Random(seed)
                square = [[source.randint(-9, 9) for _ in range(4)] for _ in range(4)]
                if len(span_of(square, prime).rows) == 4:
                    inverse = inverse_square(square, prime)
                    product = [[sum(left * right for left, right in zip(row, column)) % prime for column in zip(*inverse)]
                               for row in square]
                    self.assertEqual(product, [[int(across == down) for across in range(4)] for down in range(4)])

    def test_lifts(self):
        for prime, most in ((3, 5), (101, 9), (2 ** 127 - 1, 10 ** 60)):
            source = random.Random(prime)
            for _ in range(6):
                square = [[source.randint(-most, most) for _ in range(3)] for _ in range(3)]
                if len(span_of(square, prime).rows) < 3:
                    continue
                right = [source.randint(-most, most) for _ in range(3)]
                lift = Lift(square, inverse_square(square, prime), right, prime)
                for steps in (1, 2, 4):
                    lift.go_on(steps)
                    for row, number in zip(square, right):
                        self.assertEqual((sum(map(int.__mul__, row, lift.told)) - number) % lift.reach, 0)
                self.assertEqual(lift.reach, prime ** 7)
                while not lift.is_at_end():
                    lift.go_on(1)
                common, numbers = common_numbers(lift.told, lift.reach)
                self.assertEqual([sum(map(int.__mul__, row, numbers)) for row in square], [common * number for number in right])

    def test_ends_of_lifts(self):
        """The end is not ahead of where the greatest fractions can be told, and comes at last."""
        prime = 2 ** 127 - 1
        for square, right in ([[[MOST]], [MOST - 2]], [[[MOST, 1], [1, -MOST]], [MOST, MOST]], [[[3]], [1]], [[[1]], [MOST]]):
            lift = Lift(square, inverse_square(square, prime), right, prime)
            steps = 0
            while not lift.is_at_end():
                lift.go_on(1)
                steps += 1
            common, numbers = common_numbers(lift.told, lift.reach)
            self.assertEqual([sum(map(int.__mul__, row, numbers)) for row in square], [common * number for number in right])
            self.assertLess(steps, 60)


class ProofsTest(Case):
    def test_small_basis(self):
        rows = [(3, 0, 2, 5), (0, 7, 1, -4)]
        basis = small_basis(rows, span_of(rows, 2 ** 127 - 1))
        self.assertEqual(basis, ((21, 0, 14, 35), (0, 21, 3, -12)))
        self.assertEqual(small_basis([(1, 5, -9), (0, 0, 0)], span_of([(1, 5, -9)], 2 ** 127 - 1)), ((1, 5, -9),))
        self.assertIsNone(small_basis([*rows, (0, 0, 0, 1)], span_of(rows, 2 ** 127 - 1)))
        self.assertIsNone(small_basis([(1, MOST), (2, 2 * MOST)], span_of([(1, MOST)], 2 ** 127 - 1)))
        rest = next(rest for rest in range(101) if fraction_of(rest, 101) is None)
        self.assertIsNone(small_basis([(1, rest)], span_of([(1, rest)], 101)))

    def test_sums(self):
        great = 2 ** 127 - 1
        for many, most in ((1, 9), (2, MOST), (3, 9), (3, MOST), (4, 10 ** 40)):
            source = random.Random(many)
            found = [tuple(source.randint(-most, most) for _ in range(5)) for _ in range(many)]
            span = span_of(found, great)
            sums = [tuple(sum(times * row[at] for times, row in zip(factors, found)) for at in range(5))
                    for factors in [[source.randint(-most, most) for _ in found] for _ in range(6)]]
            # multiples by fractions, too, and rows of zeros
            sums = [tuple(number // math.gcd(*row) for number in row) for row in sums] + [(0,) * 5]
            for some in (sums, sums[:1], sums[-1:], []):
                self.assertIs(are_sums(found, some, span), True)
                for at in range(5):
                    near = [row[:at] + (row[at] + great,) + row[at + 1:] for row in some]
                    self.assertIs(are_sums(found, near, span), not near)
                    self.assertIs(are_sums(found, some + near[-1:], span), not near)
        self.assertIs(are_sums([], [(0, 0)], RestSpan(great)), True)
        self.assertIs(are_sums([], [(0, great)], RestSpan(great)), False)
        self.assertIs(are_sums([], [], RestSpan(great)), True)

    def test_one_great_prime_is_enough(self):
        """Numbers are proved by the least of the great primes, not by the integers at last."""
        for seed in range(12):
            for most in (7, MOST):
                tally = sparse("ab", 9, seed)
                tally = tally + tally.times(most)
                search = Search("ab", tally.first, columns_of(tally.moves), None, False, None)
                found = proven(search, search.modulo(2 ** PRIME_BITS[0] - 1))
                again = Search("ab", tally.first, columns_of(tally.moves), None, False, None)
                self.assertEqual(found[0], searched(again, WholeSpan())[0])
                self.assertEqual(new_texts(beginning_search(tally))[0], searched(beginning_search(tally), WholeSpan())[0])

    def test_what_is_not_proved(self):
        great = 2 ** PRIME_BITS[0] - 1
        # a row that is 0 but for the great prime, and one that is no multiple but for it
        for lines in (((0, 0), (great, 0)), ((1, 0), (great, 1))):
            search = Search("a", (1, 0), {"a": lines}, None, False, None)
            self.assertIsNone(proven(search, search.modulo(great)))
            self.assertEqual(new_texts(search)[0], ["", "a"])
        lines = {"a": ((0, 0, 0), (great, 0, 0), (0, 0, 0)), "b": ((0, 0, 0), (0, 0, 0), (1, 0, 0))}
        search = Search("ab", (1, 0, 0), lines, None, False, None)
        self.assertIsNone(proven(search, search.modulo(great)))
        self.assertEqual(new_texts(search), (["", "a", "b"], None))

    def test_rows_that_are_not_all_rows(self):
        for start, basis in (((3, 0, 6), ((1, 0, 2),)), ((1, 0, MOST), ((1, 0, MOST),)), ((0, 0, 0), ())):
            search = Search("a", start, {"a": ((1, 0, 0), (0, 1, 0), (0, 0, 1))}, None, False, None)
            self.assertEqual(new_texts(search), ([""] if basis else [], basis))
