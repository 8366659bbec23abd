"""Stage 8: ranks of tallies."""

import itertools
import random
from fractions import Fraction

from tests.helpers import MOST, Case, Slot, all_texts, texts_in_order
from tests.test_tallies import TALLY_SLOT, parts_of, some_tally, texts_over
from whatcounts.errors import InvalidOperation, InvalidTally
from whatcounts.sums.sums import Sum
from whatcounts.tally import searches
from whatcounts.tally.ranks import are_alike, first_text, least_tally, new_beginnings, new_ends, parting_text, rank
from whatcounts.tally.tallies import Tally, summed, tally_of, weighed

PRIMES = (None, 2, 3, 5, 7)


def number(value, prime):
    return Fraction(value) if prime is None else value % prime


def inverse(value, prime):
    return 1 / value if prime is None else pow(value, prime - 2, prime)


class Rows:
    """Rows to which new ones are put if they are no sums of multiples, by fractions or by rests."""

    def __init__(self, prime):
        self.prime = prime
        self.rows = []

    def takes(self, row):
        row = [number(value, self.prime) for value in row]
        for pivot, own in self.rows:
            times = row[pivot]
            row = [number(left - times * right, self.prime) for left, right in zip(row, own)]
        pivots = [at for at, value in enumerate(row) if value]
        if pivots:
            times = inverse(row[pivots[0]], self.prime)
            self.rows.append((pivots[0], [number(times * value, self.prime) for value in row]))
        return bool(pivots)


def told_rank(tally, size):
    """The new beginnings and ends by the numbers at all short texts."""
    texts = all_texts(tally.letters, size)
    numbers = {text: tally.at(text) for text in all_texts(tally.letters, 2 * size)}
    beginnings, ends = Rows(tally.prime), Rows(tally.prime)
    return (tuple(u for u in texts if beginnings.takes([numbers[u + v] for v in texts])),
            tuple(v for v in texts if ends.takes([numbers[u + v] for u in texts])))


def bent(tally, seed):
    """A wider tally with the same numbers, whose rows do not look like those of the tally."""
    source = random.Random(seed)
    width, prime = len(tally), tally.prime
    more = some_tally(tally.letters, 2, seed, prime)
    wide = tally + (more - more)
    size = len(wide)
    first, last = list(wide.first), list(wide.last)
    moves = {letter: [list(row) for row in square] for letter, square in wide.moves.items()}
    for _ in range(size + width):
        one, other = source.sample(range(size), 2)
        times = source.choice([-2, -1, 1, 3])
        # times a row is put to another one, and taken away from the columns
        first[other] += times * first[one]
        last[one] -= times * last[other]
        for square in moves.values():
            for row in square:
                row[other] += times * row[one]
            square[one] = [left - times * right for left, right in zip(square[one], square[other])]
    return Tally(tally.letters, tuple(first), {x: tuple(map(tuple, square)) for x, square in moves.items()},
                 tuple(last), prime=prime)


def sparse(letters, width, seed, prime=None):
    """A tally with many zeros, so that its rank is often less than its width."""
    source = random.Random(seed)

    def row():
        return tuple(source.choice([0, 0, 0, 0, 1, -1, 2]) for _ in range(width))
    return Tally(letters, row(), {x: tuple(row() for _ in range(width)) for x in letters}, row(), prime=prime)


def shift(width, letters="a", prime=None):
    """A tally with a 1 at just one text: so many letters but one."""
    lines = tuple(tuple(1 if across == down + 1 else 0 for across in range(width)) for down in range(width))
    none = ((0,) * width,) * width
    moves = {letter: lines if letter == letters[0] else none for letter in letters}
    row = tuple(1 if at == 0 else 0 for at in range(width))
    return Tally(letters, row, moves, row[::-1], prime=prime)


def samples(prime, letters):
    yield Tally(letters, (), {x: () for x in letters}, (), prime=prime)
    for seed in range(3):
        for width in (1, 2, 3) if letters != "abc" else (1, 2):
            yield some_tally(letters, width, seed, prime)
        tally = sparse(letters, 3 if letters != "abc" else 2, seed, prime)
        yield tally
        yield bent(tally, seed)
    yield shift(3, letters, prime) + shift(2, letters, prime).times(2)


class RanksTest(Case):
    def test_new_texts(self):
        for prime, letters in itertools.product(PRIMES, ("a", "ab", "abc")):
            for tally in samples(prime, letters):
                beginnings, ends = told_rank(tally, 5 if letters == "a" else 3)
                self.assertEqual(new_beginnings(tally), beginnings)
                self.assertEqual(new_ends(tally), ends)
                self.assertEqual(rank(tally), len(beginnings))
                self.assertLessEqual(rank(tally), len(tally))

    def test_parts_of_new_texts(self):
        for prime in PRIMES:
            for seed in range(6):
                tally = sparse("ab", 12, seed, prime)
                beginnings, ends = new_beginnings(tally), new_ends(tally)
                self.assertEqual((len(beginnings), len(ends)), (rank(tally), rank(tally)))
                self.assertEqual(list(beginnings), texts_in_order(beginnings))
                self.assertEqual(list(ends), texts_in_order(ends))
                self.assertTrue(all(text[:at] in beginnings for text in beginnings for at in range(len(text))))
                self.assertTrue(all(text[at:] in ends for text in ends for at in range(len(text))))

    def test_same_rank(self):
        for prime in PRIMES:
            for seed in range(6):
                tally = sparse("ab", 8, seed, prime)
                same = [weighed(tally), summed(tally), weighed(weighed(tally)), tally.back(), bent(tally, seed)]
                self.assertEqual({rank(some) for some in same}, {rank(tally)})
                self.assertEqual(new_beginnings(bent(tally, seed)), new_beginnings(tally))
                self.assertEqual(new_ends(bent(tally, seed)), new_ends(tally))

    def test_rank_depends_on_the_prime(self):
        tally = Tally("ab", (6, 0, 1), {"a": ((1, 0, 0), (0, 1, 0), (0, 0, 10)), "b": ((1, 5, 0), (0, 1, 0), (0, 0, 0))},
                      (0, 1, 1))
        self.assertEqual(rank(tally), 3)
        for prime in PRIMES[1:]:
            beginnings, ends = told_rank(tally.modulo(prime), 3)
            self.assertEqual((new_beginnings(tally.modulo(prime)), new_ends(tally.modulo(prime))), (beginnings, ends))
        self.assertEqual([rank(tally.modulo(prime)) for prime in PRIMES[1:]], [1, 1, 1, 3])

    def test_great_primes(self):
        """Numbers that are 0 modulo the primes by which the program reckons are not 0."""
        for bits in searches.PRIME_BITS[:2]:
            great = 2 ** bits - 1
            if great > MOST:
                continue
            tally = Tally("ab", (1, 0), {"a": ((0, great), (0, 0)), "b": ((0, 1), (0, 0))}, (0, 1))
            self.assertEqual(new_beginnings(tally), ("", "a"))
            self.assertEqual(new_ends(tally), ("", "a"))
            tally = Tally("ab", (1, 0, 0), {"a": ((0, great, 0), (0, 0, 0), (0, 0, 0)),
                                            "b": ((0, 0, 1), (0, 0, 0), (0, 0, 0))}, (1, 1, 0))
            self.assertEqual(first_text(tally.behind("a")), "")
            self.assertEqual((rank(tally), new_beginnings(tally), new_ends(tally)), (2, ("", "a"), ("", "a")))
            self.assertEqual(first_text(tally - Tally("ab", (1,), {"a": ((0,),), "b": ((0,),)}, (1,))), "a")
        every = 1
        for bits in searches.PRIME_BITS:
            every *= 2 ** bits - 1
        # a number that is 0 modulo all of these primes, by a product of numbers with two hundred digits
        tally = Tally("a", (1, 0), {"a": ((0, 1), (0, 0))}, (0, 1))
        row = searches.Search("a", (1, 0, 0), {"a": ((0, 0, 0), (every, 0, 0), (0, 0, 0))}, None, False, None)
        self.assertEqual(searches.new_texts(row)[0], ["", "a"])
        self.assertEqual(rank(tally), 2)

    def test_whole_rows(self):
        """Rows that no great prime tells are told by the integers themselves."""
        great, other = 3 ** 9000, 7 ** 7000
        for looks in (None, ((1, 0, 0), (0, 1, 0))):
            search = searches.Search("ab", (great, other, 0), {"a": ((1, 0, 0), (0, 1, 0), (0, 0, 1)),
                                                               "b": ((0, 1, 0), (1, 0, 0), (0, 0, 1))}, looks, False, None)
            found, basis = searches.new_texts(search)
            self.assertEqual(found, ["", "b"])
            self.assertEqual(basis is None, looks is not None)

    def test_fractions(self):
        tally = Tally("ab", (3, 5, 7), {"a": ((2, 0, 0), (0, 2, 0), (0, 0, 2)), "b": ((6, 0, 0), (0, 6, 0), (0, 0, 6))},
                      (11, -13, 17))
        self.assertEqual((rank(tally), new_beginnings(tally), new_ends(tally)), (1, ("",), ("",)))
        self.assertEqual(told_rank(tally, 3), (("",), ("",)))
        self.assertEqual([rank(tally.modulo(prime)) for prime in PRIMES[1:]], [1, 0, 1, 1])

    def test_long_integers(self):
        source = random.Random(8)

        def row(width):
            return tuple(source.randint(-MOST, MOST) for _ in range(width))
        for letters in ("a", "ab", "abc"):
            for width in (1, 2, 3):
                tally = Tally(letters, row(width), {x: tuple(row(width) for _ in range(width)) for x in letters}, row(width))
                beginnings, ends = told_rank(tally, 3 if letters == "a" else 2)
                self.assertEqual((new_beginnings(tally), new_ends(tally)), (beginnings, ends))
                twice = tally + tally.times(MOST)
                self.assertEqual((new_beginnings(twice), new_ends(twice)), (beginnings, ends))
                self.assertTrue(are_alike(twice - tally.times(MOST), tally))
        wide = Tally("a", row(60), {"a": tuple(row(60) for _ in range(60))}, row(60))
        self.assertEqual(new_beginnings(wide), tuple("a" * size for size in range(60)))
        self.assertEqual(new_ends(wide), tuple("a" * size for size in range(60)))
        twice = Tally("ab", row(20), {x: tuple(row(20) for _ in range(20)) for x in "ab"}, row(20))
        twice = twice - twice.times(7)
        self.assertEqual(new_beginnings(twice), tuple(all_texts("ab", 4)[:20]))

    def test_widths(self):
        for prime, letters in ((None, "a"), (None, "abc"), (2, "ab"), (3, "abc"), (5, "a"), (7, "ab")):
            self.assertEqual(rank(shift(60, letters, prime)), 60)
            self.assertEqual(new_ends(shift(60, letters, prime)), tuple("a" * size for size in range(60)))
        for letters in ("a", "ab", "abc"):
            tally = some_tally(letters, 60, 3)
            self.assertEqual(new_beginnings(tally), tuple(all_texts(letters, 59 if letters == "a" else 5)[:60]))
            self.assertEqual(new_ends(tally), tuple(all_texts(letters, 59 if letters == "a" else 5)[:60]))
        zero = some_tally("abc", 60, 4).times(0)
        self.assertEqual((rank(zero), new_beginnings(zero), new_ends(zero), first_text(zero)), (0, (), (), None))

    def test_sums(self):
        for prime in PRIMES:
            total = Sum("abc", {"abcabcabcabc": 5, "aab": -1, "cc": 10, "": 1}, prime=prime)
            tally = tally_of(total)
            # the row of a weight at a pattern tells those of its beginnings and ends
            patterns = total.weights
            starts = {pattern[:at] for pattern in patterns for at in range(len(pattern) + 1)}
            table = Rows(prime)
            ends = {pattern[at:] for pattern in patterns for at in range(len(pattern) + 1)}
            many = sum(table.takes([patterns.get(start + end, 0) for end in sorted(ends)]) for start in sorted(starts))
            self.assertEqual((rank(tally), rank(weighed(tally))), (many, many))


class FirstTextsTest(Case):
    def test_first_text(self):
        for prime, letters in itertools.product(PRIMES, ("a", "ab", "abc")):
            for tally in samples(prime, letters):
                told = [text for text in texts_over(letters) if tally.at(text) != 0]
                self.assertEqual(first_text(tally), told[0] if told else None)
                if told:
                    self.assertLess(len(told[0]), rank(tally))

    def test_parting_text(self):
        for prime, letters in itertools.product(PRIMES, ("a", "ab", "abc")):
            some = list(samples(prime, letters))[:9]
            for one, other in itertools.product(some, some):
                told = [text for text in texts_over(letters, 5) if one.at(text) != other.at(text)]
                parting = parting_text(one, other)
                self.assertEqual(parting, told[0] if told else None)
                self.assertEqual(are_alike(one, other), not told)
                if told:
                    self.assertLess(len(parting), rank(one) + rank(other))

    def test_late_parting(self):
        """Two tallies that are unlike first at a text of one letter less than the sum of both ranks."""
        for prime, width in [*itertools.product(PRIMES, (1, 2, 5)), (None, 30), (3, 29)]:
            one = shift(width, "a", prime)
            cycle = tuple(tuple(1 if across == (down + 1) % (width + 1) else 0 for across in range(width + 1))
                          for down in range(width + 1))
            row = tuple(1 if at == 0 else 0 for at in range(width + 1))
            last = tuple(1 if at == width - 1 else 0 for at in range(width + 1))
            other = Tally("a", row, {"a": cycle}, last, prime=prime)
            self.assertEqual((rank(one), rank(other)), (width, width + 1))
            self.assertEqual(parting_text(one, other), "a" * (2 * width))
            self.assertEqual(parting_text(other, one), "a" * (2 * width))
            self.assertFalse(are_alike(one, other))
        one = shift(60, "ab")
        self.assertEqual(first_text(one), "a" * 59)
        zero = Tally("ab", (), {"a": (), "b": ()}, ())
        self.assertEqual(parting_text(one, zero), "a" * 59)

    def test_wide_tallies_that_are_alike(self):
        for prime in (None, 2, 7):
            tally = some_tally("ab", 60, 3, prime)
            self.assertIsNone(parting_text(tally, tally.back().back()))
            self.assertEqual(are_alike(tally, tally.times(2)), prime is not None and rank(tally) == 0)

    def test_long_numbers(self):
        tally = Tally("ab", (MOST, 1), {"a": ((MOST, 1), (0, MOST)), "b": ((-MOST, 0), (7, 1))}, (3, MOST))
        self.assertTrue(are_alike(tally + tally, tally.times(2)))
        self.assertTrue(are_alike(tally * tally - tally * tally, tally.times(0)))
        self.assertEqual(parting_text(tally.ahead("ab" * 50), tally.ahead("ab" * 49)), "")


class LeastTalliesTest(Case):
    def expected(self, tally):
        """The least tally by the numbers at short texts, its rests by trying all of them."""
        letters, prime = tally.letters, tally.prime
        size = 5 if letters == "a" else 3
        texts = all_texts(letters, size)
        beginnings = told_rank(tally, size)[0]
        rows = {u: [tally.at(u + v) for v in texts] for u in all_texts(letters, size)}

        def shares(text):
            for times in itertools.product(range(prime), repeat=len(beginnings)):
                told = [sum(n * rows[u][at] for n, u in zip(times, beginnings)) % prime for at in range(len(texts))]
                if told == rows[text]:
                    return times
        moves = {x: tuple(shares(u + x) for u in beginnings) for x in letters}
        first = tuple(1 if u == "" else 0 for u in beginnings)
        return Tally(letters, first, moves, tuple(tally.at(u) for u in beginnings), prime=prime)

    def test_least_tallies(self):
        for prime, letters in itertools.product(PRIMES[1:], ("a", "ab", "abc")):
            for tally in samples(prime, letters):
                least = least_tally(tally)
                self.assertEqual((len(least), least.letters, least.prime), (rank(tally), letters, prime))
                self.assertTrue(are_alike(least, tally))
                self.assertTrue(all(least.at(text) == tally.at(text) for text in texts_over(letters)))
                if len(least) <= 2 or prime <= 3:
                    self.assertEqual(least, self.expected(tally))
                self.assertEqual(least_tally(least), least)
                self.assertEqual(least_tally(bent(tally, 5)), least)
                self.assertEqual(least_tally(tally + tally - tally), least)

    def test_edges(self):
        for prime in PRIMES[1:]:
            wide = some_tally("ab", 60, 5, prime)
            least = least_tally(wide)
            self.assertEqual((len(least), are_alike(least, wide)), (rank(wide), True))
            empty = Tally("ab", (), {"a": (), "b": ()}, (), prime=prime)
            for tally in (wide.times(0), empty, wide.times(prime)):
                self.assertEqual(least_tally(tally), empty)
            self.assertEqual(least_tally(shift(60, "ab", prime)), shift(60, "ab", prime))


class RanksErrorsTest(Case):
    def test_tallies(self):
        for call in (rank, new_beginnings, new_ends, first_text, least_tally):
            self.check_slots(call, [TALLY_SLOT] if call is not least_tally else [
                Slot(some_tally("a", 1, 0, 2), TALLY_SLOT.wrong, InvalidTally)])
        for call in (parting_text, are_alike):
            self.check_slots(call, [TALLY_SLOT, TALLY_SLOT])

    def test_operations(self):
        one = some_tally("ab", 2, 0)
        for other in (some_tally("ac", 2, 0), some_tally("a", 2, 0), some_tally("ab", 2, 0, 2)):
            for call in (parting_text, are_alike):
                self.raised(InvalidOperation, call, one, other)
                self.raised(InvalidOperation, call, other, one)
        self.raised(InvalidOperation, are_alike, some_tally("ab", 2, 0, 3), some_tally("ab", 2, 0, 2))
        for width in (0, 1, 60):
            self.raised(InvalidOperation, least_tally, Tally("a", *parts_of("a", width, 1)))
