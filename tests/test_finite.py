"""[0.16], [15.1] and stage 15: tallies whose numbers are those of sums."""

import itertools
import random

from tests.helpers import MOST, Case, Slot, all_texts, every_kind, texts_in_order, weights_by_numbers
from tests.test_ranks import bent, shift, sparse, told_rank
from tests.test_sums import number_at, some_weights
from tests.test_tallies import TALLY_SLOT, selections_of, some_tally
from whatcounts.errors import InvalidOperation, InvalidTally
from whatcounts.reader.least import answers
from whatcounts.reader.readers import Reader
from whatcounts.sums.sums import Sum
from whatcounts.tally import searches
from whatcounts.tally.ranks import are_alike, rank
from whatcounts.tally.tallies import Tally, summed, tally_of, weighed
from whatcounts.tell.course import course_of, lean_modulo, whole_course
from whatcounts.tell.finite import degree_of, is_finite, is_tell_paper, sum_of, tell_paper

PRIMES = (None, 2, 3, 5, 7)
GROW = Tally("a", (1, 0), {"a": ((1, 1), (1, 0))}, (1, 0))
AB = Sum("ab", {"ab": 1})
CROSS = tally_of(AB)


def rest(number, prime):
    return number if prime is None else number % prime


def choices(letters, size, prime=None):
    """The tally of the numbers of ways to choose so many letters: all patterns of this length have the weight 1."""
    lines = tuple(tuple(1 if across in (down, down + 1) else 0 for across in range(size + 1)) for down in range(size + 1))
    row = tuple(1 if at == 0 else 0 for at in range(size + 1))
    return Tally(letters, row, dict.fromkeys(letters, lines), row[::-1], prime=prime)


def alternating(tally, pattern):
    """The weight by all sets of places."""
    total = sum((-1) ** (len(pattern) - len(chosen)) * tally.at(chosen) for chosen in selections_of(pattern))
    return rest(total, tally.prime)


def some_tallies(letters, prime):
    """Tallies of at most three numbers, some of them of sums."""
    width = 3 if letters != "abc" else 2
    yield Tally(letters, (), {x: () for x in letters}, (), prime=prime)
    for seed in range(4):
        yield some_tally(letters, 1 + seed % width, seed, prime)
        yield sparse(letters, width, seed, prime)
        yield summed(sparse(letters, width, seed + 10, prime))
    for total in (Sum(letters, {letters[0]: 2, "": 1}, prime=prime), Sum(letters, {"": 4}, prime=prime),
                  Sum(letters, {letters[0] + letters[-1]: 3}, prime=prime)):
        yield tally_of(total)
    yield shift(2, letters, prime)
    yield summed(shift(width, letters, prime))
    yield choices(letters, 1, prime)


class FiniteTest(Case):
    def test_by_all_selections(self):
        """The tally is a sum exactly if the weights at all patterns of r to 2 r - 1 letters are 0."""
        for prime, letters in itertools.product(PRIMES, ("a", "ab", "abc")):
            for tally in some_tallies(letters, prime):
                size = max(2 * len(tally) - 1, 2)
                weights = weights_by_numbers(letters, size, tally.at)
                weights = {text: rest(number, prime) for text, number in weights.items() if rest(number, prime) != 0}
                for text in all_texts(letters, min(size, 3))[:12]:
                    self.assertEqual(alternating(tally, text), weights.get(text, 0))
                    self.assertEqual(weighed(tally).at(text), weights.get(text, 0))
                self.check_course(tally, weights)

    def check_course(self, tally, weights):
        many = len(told_rank(tally, 5 if tally.letters == "a" else 3)[0])
        long = [text for text in weights if len(text) >= many]
        self.assertIs(is_finite(tally), not long)
        paper = tell_paper(tally)
        self.assertIs(is_tell_paper(tally, paper), True)
        for text in all_texts(tally.letters, max(2 * len(tally) - 1, 2))[:60]:
            self.assertIs(is_tell_paper(tally, ("endless", text)), text in long)
        if long:
            self.assertIsNone(sum_of(tally))
            self.assertEqual(paper[0], "endless")
            self.assertGreaterEqual(len(paper[1]), many)
            self.assertNotEqual(alternating(tally, paper[1]), 0)
            self.raised(InvalidOperation, degree_of, tally)
            self.assertFalse(is_tell_paper(tally, ("sum", ())))
        else:
            ordered = {text: weights[text] for text in texts_in_order(weights)}
            self.assertEqual(sum_of(tally), Sum(tally.letters, ordered, prime=tally.prime))
            self.assertEqual(paper, ("sum", tuple(ordered.items())))
            self.assertEqual(degree_of(tally), max(map(len, ordered), default=None))
            self.assertLess(degree_of(tally) or 0, max(many, 1))

    def test_sums(self):
        for prime, letters in itertools.product(PRIMES, ("a", "ab", "abc")):
            for seed, (many, size) in enumerate(((1, 12), (3, 6), (6, 3), (4, 12))):
                total = Sum(letters, some_weights(letters, many, size, seed), prime=prime)
                tally = tally_of(total)
                same = [tally, tally + tally - tally if 3 * len(tally) <= 60 else tally, tally.back().back()]
                if len(tally) <= 24:
                    same += [bent(tally, seed), bent(bent(tally, seed + 1), seed + 2)]
                for some in same:
                    told = sum_of(some)
                    self.assertEqual((told, degree_of(some)), (total, total.degree))
                    self.assertEqual(tell_paper(some), ("sum", tuple(total.weights.items())))
                    self.assertTrue(is_tell_paper(some, ("sum", tuple(total.weights.items()))))
                    for text in all_texts(letters, 3)[:8]:
                        self.assertEqual(told.at(text), number_at(total.weights, prime, text))

    def test_sums_that_are_put_together(self):
        for prime in PRIMES:
            one, other = Sum("ab", {"ab": 2, "b": 1}, prime=prime), Sum("ab", {"a": 3, "": -1, "bb": 1}, prime=prime)
            left, right = tally_of(one), tally_of(other)
            for tally, total in ((left + right, one + other), (left - right, one - other), (left * right, one * other),
                                 (left.behind("ba"), one.behind("ba")), (left.ahead("ab"), one.ahead("ab")),
                                 (left.times(6), one.times(6)), (left - left, one - one)):
                self.assertEqual((sum_of(tally), degree_of(tally)), (total, total.degree))
                self.assertEqual(sum_of(bent(tally, 3)), total)
            every = left + shift(3, "ab", prime)
            self.assertFalse(is_finite(every))
            self.assertEqual(sum_of(every - shift(3, "ab", prime)), one)

    def test_widths(self):
        for prime in PRIMES:
            self.assertEqual(sum_of(Tally("ab", (), {"a": (), "b": ()}, (), prime=prime)), Sum("ab", {}, prime=prime))
            for letters in ("a", "ab", "abc"):
                for width in (1, 7, 20) if letters != "a" or prime in (2, 5) else (1, 60):
                    late = summed(shift(width, letters, prime))
                    self.assertTrue(is_finite(late))
                    self.assertEqual(degree_of(late), width - 1)
                    self.assertFalse(is_finite(shift(width, letters, prime)))
                    if width > 1:
                        self.assertFalse(is_finite(some_tally(letters, width, 4, prime)))
            wide = some_tally("abc", 60, 4, prime)
            self.assertFalse(is_finite(wide))
            self.assertTrue(is_tell_paper(wide, tell_paper(wide)))
            zero = wide.times(0)
            self.assertEqual((sum_of(zero), degree_of(zero), tell_paper(zero)), (Sum("abc", {}, prime=prime), None, ("sum", ())))

    def test_rank_of_weights(self):
        for prime, letters in itertools.product(PRIMES, ("a", "ab", "abc")):
            for tally in some_tallies(letters, prime):
                self.assertEqual(rank(weighed(tally)), rank(tally))
                self.assertTrue(are_alike(summed(weighed(tally)), tally))

    def test_readers_by_each_prime(self):
        even = Reader("ab", {"a": (1, 0), "b": (0, 1)}, (0,))
        self.assertEqual([is_finite(answers(even, prime=prime)) for prime in PRIMES], [False, True, False, False, False])
        every = Reader("ab", {"a": (1, 0), "b": (0, 1)}, (0, 1))
        self.assertEqual([sum_of(answers(every, prime=prime)).weights for prime in PRIMES], [{"": 1}] * 5)


class GreatPrimesTest(Case):
    def test_weights_that_a_great_prime_divides(self):
        """An exact tally is not a sum because its weights are so modulo the prime by which the program reckons first."""
        for bits in searches.PRIME_BITS[:2]:
            great = 2 ** bits - 1
            if great > MOST:
                continue
            endless = summed(Tally("ab", (1,), {"a": ((great,),), "b": ((0,),)}, (1,)))
            self.assertFalse(is_finite(endless))
            paper = tell_paper(endless)
            self.assertEqual((paper[0], set(paper[1])), ("endless", {"a"}))
            self.assertTrue(is_tell_paper(endless, paper))
            self.assertTrue(is_tell_paper(endless, ("endless", "a" * 400)))
            self.assertFalse(is_tell_paper(endless, ("endless", "a" * 399 + "b")))
            last = summed(Tally("ab", (1, 0, 0), {"a": ((0, great, 0), (0, 0, 1), (0, 0, 0)), "b": ((0,) * 3,) * 3}, (7, 0, 1)))
            self.assertEqual(sum_of(last), Sum("ab", {"": 7, "aa": great}))
            self.assertEqual(degree_of(last), 2)
            self.assertTrue(is_tell_paper(last, ("sum", (("", 7), ("aa", great)))))
            self.assertFalse(is_tell_paper(last, ("sum", (("", 7),))))

    def test_both_ways(self):
        """What the great prime tells is what the integers tell."""
        for letters in ("a", "ab", "abc"):
            for tally in some_tallies(letters, None):
                course, whole = course_of(tally), whole_course(weighed(tally))
                self.assertEqual(course.endless is None, whole.endless is None)
                self.assertEqual(course.deepest, whole.deepest)
                if whole.endless is not None:
                    self.assertTrue(is_tell_paper(tally, ("endless", whole.endless)))
                self.assertEqual(len(lean_modulo(tally, 2 ** 127 - 1).found), rank(tally))

    def test_long_integers(self):
        source = random.Random(3)

        def row(width):
            return tuple(source.randint(-MOST, MOST) for _ in range(width))
        wide = Tally("abc", row(20), {x: tuple(row(20) for _ in range(20)) for x in "abc"}, row(20))
        self.assertTrue(is_tell_paper(wide, tell_paper(wide)))
        long = {"ab": MOST, "bb": -MOST, "": 10 ** 199, "aab": 1}
        total = Sum("ab", long)
        for tally in (tally_of(total), tally_of(total).times(3) - tally_of(total).times(2), tally_of(total) * tally_of(Sum("ab", {"": 1}))):
            self.assertEqual(sum_of(tally), total)
            self.assertTrue(is_tell_paper(tally, ("sum", (("", 10 ** 199), ("ab", MOST), ("bb", -MOST), ("aab", 1)))))
        longer = tally_of(total).times(10)
        paper = tell_paper(longer)
        self.assertEqual(dict(paper[1])["ab"], 10 * MOST)
        # a paper is built from integers of at most two hundred digits
        self.assertFalse(is_tell_paper(longer, paper))


class LimitsTest(Case):
    def test_degrees(self):
        for prime in PRIMES:
            for letters in ("a", "ab"):
                for size in (12, 13, 30) if letters == "ab" or prime not in (None, 3) else (12, 13, 59):
                    tally = summed(shift(size + 1, letters, prime))
                    right = ("sum", (("a" * size, 1),))
                    self.assertTrue(is_tell_paper(tally, right))
                    self.assertFalse(is_tell_paper(tally, ("sum", ())))
                    self.assertFalse(is_tell_paper(tally, ("sum", (("a" * (size - 1), 1),))))
                    if size == 12:
                        self.assertEqual((sum_of(tally), tell_paper(tally)), (Sum(letters, {"a" * 12: 1}, prime=prime), right))
                    else:
                        self.too_many(12, sum_of, tally)
                        self.too_many(12, tell_paper, tally)

    def test_weights(self):
        for prime in PRIMES:
            # 2 to the power of 8 and of 7 and so on: 400 of them are told, and one more
            parts = [choices("ab", 8, prime), choices("ab", 7, prime), choices("ab", 4, prime)]
            most = parts[0] + parts[1] + parts[2]
            weights = [text for text in all_texts("ab", 8) if len(text) in (4, 7, 8)]
            self.assertEqual(len(weights), 400)
            self.assertEqual(list(sum_of(most).weights), weights)
            paper = ("sum", tuple((text, 1) for text in weights))
            self.assertEqual(tell_paper(most), paper)
            self.assertTrue(is_tell_paper(most, paper))
            self.assertFalse(is_tell_paper(most, ("sum", paper[1][:-1])))
            more = most + tally_of(Sum("ab", {"": 1}, prime=prime))
            longer = ("sum", (("", 1),) + paper[1])
            for tally in (more, bent(more, 1)):
                self.too_many(400, sum_of, tally)
                self.too_many(400, tell_paper, tally)
                for value in (paper, longer, ("sum", paper[1][1:])):
                    self.assertFalse(is_tell_paper(tally, value))
                self.assertTrue(is_finite(tally))
                self.assertEqual(degree_of(tally), 8)
            self.too_many(12, sum_of, more + choices("ab", 13, prime))
            self.too_many(400, sum_of, choices("abc", 6, prime))
            self.too_many(400, sum_of, choices("ab", 12, prime))
            # there are far more weights than could be listed
            for tally in (choices("ab", 40, prime), choices("abc", 12, prime)):
                for value in (paper, ("sum", ()), ("sum", (("a", 1),))):
                    self.assertFalse(is_tell_paper(tally, value))
            self.assertEqual(len(sum_of(choices("abc", 5, prime))), 243)

    def test_many_weights_at_few_patterns(self):
        """Weights of like signs that nearly all are 0 are found in between."""
        for prime in PRIMES:
            total = Sum("abc", {"abcabcabcabc": 1, "cccccccccccc": 1, "b": 1}, prime=prime)
            tally = tally_of(total) + choices("abc", 6, prime) - choices("abc", 6, prime)
            self.assertEqual(sum_of(tally), total)
            self.assertEqual(sum_of(bent(tally, 8)), total)


class PapersTest(Case):
    def test_wrong_sums(self):
        for prime in PRIMES:
            tally = tally_of(Sum("ab", {"": 1, "b": 1, "ab": 1, "bab": 1}, prime=prime))
            pairs = (("", 1), ("b", 1), ("ab", 1), ("bab", 1))
            self.assertTrue(is_tell_paper(tally, ("sum", pairs)))
            wrong = [pairs[::-1], pairs[:-1], pairs[1:], pairs + pairs[-1:], (("", 1), ("ab", 1), ("b", 1), ("bab", 1)), ()]
            wrong += [pairs[:1] + (("a", 0),) + pairs[1:], pairs + (("bbb", 0),), list(pairs), dict(pairs), None, "sum", 1]
            wrong += [tuple([list(pair) for pair in pairs]), (("", True),) + pairs[1:], (("", 1, 1),) + pairs[1:], (("",),) + pairs[1:]]
            wrong += [(("", 1 + (prime or 1)),) + pairs[1:], (("", 1 - (prime or 2)),) + pairs[1:], (("", 10 ** 200 + 1),) + pairs[1:]]
            wrong += [(("", "1"),) + pairs[1:], ((None, 1),) + pairs[1:], pairs[:3] + (("bac", 1),), pairs[:3] + (("b" * 401, 1),)]
            wrong += [pairs[:3] + (("b" * 400, 1),), (("", 1 if prime == 2 else -1),) + pairs[1:3] + (("bab", 0),), (pairs,)]
            for value in wrong:
                self.assertIs(is_tell_paper(tally, ("sum", value)), False, str(value)[:80])
            for value in (["sum", pairs], ("sum",), ("sum", pairs, ()), ("endless", pairs), (pairs, "sum"), ("Sum", pairs),
                          {"sum": pairs}, pairs, "sum", ("endless", "bab"), ("endless", "babb"), (("sum",), pairs), (None, pairs)):
                self.assertIs(is_tell_paper(tally, value), False)

    def test_every_kind(self):
        for tally in (CROSS, GROW, GROW.modulo(2), CROSS.modulo(7), CROSS - CROSS):
            for value in every_kind():
                self.assertIs(is_tell_paper(tally, value), False)
                self.assertIs(is_tell_paper(tally, (value, ())), False)
                right = tally == CROSS - CROSS and value == () and isinstance(value, tuple)
                self.assertIs(is_tell_paper(tally, ("sum", value)), right)
                right = tally.letters == "a" and isinstance(value, str) and set(value) == {"a"} and 2 <= len(value) <= 400
                right = right and weighed(tally).at(value) != 0
                self.assertIs(is_tell_paper(tally, ("endless", value)), right)

    def test_endless_patterns(self):
        for tally in (GROW, GROW.modulo(2)):
            for size in (0, 1, 2, 3, 399, 400, 401):
                right = 2 <= size <= 400 and weighed(tally).at("a" * size) != 0
                self.assertIs(is_tell_paper(tally, ("endless", "a" * size)), right)
        for prime in PRIMES:
            # a reader of one state more: its weights are not 0 at just the patterns of letters a alone
            tally = answers(Reader("ab", {"a": (0, 1), "b": (1, 1)}, (0,)), prime=prime)
            for size in (1, 2, 399, 400):
                self.assertIs(is_tell_paper(tally, ("endless", "b" * size)), size >= rank(tally))
                self.assertIs(is_tell_paper(tally, ("endless", "b" * (size - 1) + "a")), False)
            self.assertFalse(is_tell_paper(tally, ("endless", "b" * 401)))
            self.assertFalse(is_tell_paper(tally, ("endless", "c" * 40)))


class FiniteErrorsTest(Case):
    def test_slots(self):
        for call in (is_finite, sum_of, tell_paper, degree_of):
            self.check_slots(call, [TALLY_SLOT])
        for value in (None, ("sum", ()), ("endless", "a")):
            self.check_slots(lambda tally: is_tell_paper(tally, value), [Slot(CROSS, TALLY_SLOT.wrong, InvalidTally)])

    def test_operations(self):
        for tally in (GROW, GROW.modulo(2), shift(60, "ab"), some_tally("abc", 60, 1, 5)):
            self.raised(InvalidOperation, degree_of, tally)
