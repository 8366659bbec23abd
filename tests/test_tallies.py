"""[0.13] and stage 7: tallies."""

import itertools
import random

from tests.helpers import MOST, Case, Slot, all_texts, is_plain_integer, is_some_letters, is_some_text, wrong_ones
from tests.test_counts import weight_at
from tests.test_sums import some_weights
from whatcounts.errors import InvalidLetters, InvalidNumber, InvalidOperation, InvalidSum, InvalidTally, InvalidText
from whatcounts.sums.sums import Sum
from whatcounts.tally import tallies
from whatcounts.tally.tallies import Tally, summed, tally_of, weighed

PRIMES = (None, 2, 3, 5, 7)
LETTERS_SLOT = Slot("ab", wrong_ones(is_some_letters), InvalidLetters)
WRONG_PRIMES = wrong_ones(lambda value: is_plain_integer(value) and value in (2, 3, 5, 7))
PRIME_SLOT = Slot(3, [value for value in WRONG_PRIMES if value is not None], InvalidNumber, keyword="prime")
TEXT_SLOT = Slot("ab", wrong_ones(is_some_text("ab", 4000)) + ["abc", "ab" * 2000 + "a"], InvalidText)
TALLY_SLOT = Slot(Tally("a", (), {"a": ()}, ()), wrong_ones(lambda value: isinstance(value, Tally)), InvalidTally)


def rest(number, prime):
    return number if prime is None else number % prime


def parts_of(letters, width, seed):
    source = random.Random(seed)

    def row():
        return tuple(source.choice([-3, -1, 0, 0, 1, 1, 2, 5]) for _ in range(width))
    return row(), {letter: tuple(row() for _ in range(width)) for letter in letters}, row()


def some_tally(letters, width, seed, prime=None):
    return Tally(letters, *parts_of(letters, width, seed), prime=prime)


def number_at(parts, prime, text):
    """The product of row, tables and column, number by number."""
    row, moves, column = parts
    for letter in text:
        row = [sum(row[down] * moves[letter][down][across] for down in range(len(row))) for across in range(len(row))]
    return rest(sum(left * right for left, right in zip(row, column)), prime)


def unit(width, letters="ab"):
    row = (1,) + (0,) * (width - 1)
    return Tally(letters, row, {letter: (row,) * width for letter in letters}, row)


def texts_over(letters, size=4):
    return all_texts(letters, size)[:160]


def selections_of(text):
    """What stands at all sets of places, one for each set."""
    return ["".join(chosen) for size in range(len(text) + 1) for chosen in itertools.combinations(text, size)]


class TallyTest(Case):
    def test_constant(self):
        self.assertEqual(tallies.MAX_WIDTH, 60)

    def test_numbers(self):
        for prime, letters, width in itertools.product(PRIMES, ("a", "ab", "abc"), (0, 1, 2, 4)):
            parts = parts_of(letters, width, width)
            tally = Tally(letters, *parts, prime=prime)
            for text in texts_over(letters):
                self.assertEqual(tally.at(text), number_at(parts, prime, text))

    def test_properties(self):
        parts = ((1, -2), {"b": ((1, 2), (3, 4)), "a": ((5, 6), (7, -8))}, (0, 9))
        tally = Tally("ab", *parts)
        self.assertEqual((tally.letters, tally.first, tally.last, tally.prime), ("ab", (1, -2), (0, 9), None))
        self.assertEqual(tally.moves, parts[1])
        self.assertEqual(list(tally.moves), ["a", "b"])
        self.assertEqual((len(tally), str(tally)), (2, "tally of 2 numbers over ab"))
        rests = Tally("ab", *parts, prime=3)
        self.assertEqual((rests.first, rests.last, rests.prime), ((1, 1), (0, 0), 3))
        self.assertEqual(rests.moves, {"a": ((2, 0), (1, 1)), "b": ((1, 2), (0, 1))})
        self.assertEqual(str(rests), "tally of 2 numbers over ab, modulo 3")
        empty = Tally("z", (), {"z": ()}, ())
        self.assertEqual((len(empty), empty.at(""), empty.at("zz"), str(empty)), (0, 0, 0, "tally of 0 numbers over z"))

    def test_long_texts(self):
        tally = Tally("ab", (1, 0), {"a": ((1, 1), (0, 1)), "b": ((1, 0), (0, 1))}, (0, 1))
        self.assertEqual(tally.at("ab" * 2000), 2000)
        self.assertEqual(tally.modulo(7).at("ab" * 2000), 2000 % 7)
        self.assertEqual(tally.behind("a" * 4000).ahead("a" * 4000).at("a" * 4000), 12000)

    def test_equality(self):
        parts = ((1, 0), {"a": ((1, 1), (1, 0))}, (1, 0))
        others = [Tally("a", (1, 1), parts[1], parts[2]), Tally("a", parts[0], {"a": ((1, 1), (1, 1))}, parts[2]),
                  Tally("a", parts[0], parts[1], (0, 0)), Tally("a", *parts, prime=2), Tally("a", *parts, prime=3),
                  Tally("b", parts[0], {"b": parts[1]["a"]}, parts[2]), parts]
        self.check_equality(lambda: Tally("a", *parts), others)
        self.assertTrue(Tally("a", (3,), {"a": ((4,),)}, (5,), prime=2) == Tally("a", (1,), {"a": ((0,),)}, (-1,), prime=2))
        self.check_not_iterable(Tally("a", *parts))

    def test_no_state_is_shared(self):
        moves = {"a": ((1, 1), (1, 0)), "b": ((0, 1), (1, 0))}
        tally = Tally("ab", (1, 0), moves, (1, 0))
        right = dict(moves)
        moves["a"] = ((0, 0), (0, 0))
        tally.moves["b"] = ((0, 0), (0, 0))
        tally.moves.clear()
        tally.modulo(2).moves.clear()
        tally.times(2).moves.clear()
        weighed(tally).moves.clear()
        self.assertEqual((tally.moves, tally.at("ab")), (right, 1))
        for name, value in (("first", ()), ("last", ()), ("moves", {}), ("letters", "a"), ("prime", 2)):
            with self.assertRaises(AttributeError):
                setattr(tally, name, value)


class TallyOperatorsTest(Case):
    def test_sums_differences_and_products(self):
        for prime, letters in itertools.product(PRIMES, ("a", "ab", "abc")):
            for wide, narrow in ((3, 2), (0, 2), (1, 4), (0, 0)):
                one, other = some_tally(letters, wide, 1, prime), some_tally(letters, narrow, 2, prime)
                results = (one + other, one - other, one * other, one.times(-7))
                for text in texts_over(letters, 3):
                    left, right = one.at(text), other.at(text)
                    numbers = [rest(number, prime) for number in (left + right, left - right, left * right, -7 * left)]
                    self.assertEqual([tally.at(text) for tally in results], numbers)
                for tally, most in zip(results, (wide + narrow, wide + narrow, wide * narrow, wide)):
                    self.assertLessEqual(len(tally), most)
                    self.assertEqual((tally.letters, tally.prime), (letters, prime))

    def test_behind_ahead_and_back(self):
        for prime, letters in itertools.product(PRIMES, ("a", "ab", "abc")):
            tally = some_tally(letters, 3, 4, prime)
            back = tally.back()
            for end in ("", "a", letters, letters[::-1] * 3):
                behind, ahead = tally.behind(end), tally.ahead(end)
                for text in texts_over(letters, 3):
                    self.assertEqual(behind.at(text), tally.at(text + end))
                    self.assertEqual(ahead.at(text), tally.at(end + text))
                    self.assertEqual(back.at(text), tally.at(text[::-1]))
                for some in (behind, ahead, back):
                    self.assertLessEqual(len(some), 3)
                    self.assertEqual((some.letters, some.prime), (letters, prime))

    def test_modulo(self):
        tally = some_tally("ab", 4, 9)
        for prime in PRIMES[1:]:
            rests = tally.modulo(prime)
            self.assertEqual((rests.prime, rests.letters, len(rests) <= 4), (prime, "ab", True))
            numbers = [number for row in (rests.first, rests.last, *rests.moves["a"], *rests.moves["b"]) for number in row]
            self.assertTrue(all(0 <= number < prime for number in numbers))
            for text in texts_over("ab"):
                self.assertEqual(rests.at(text), tally.at(text) % prime)

    def test_long_numbers(self):
        tally = Tally("a", (MOST,), {"a": ((-MOST,),)}, (MOST,))
        self.assertEqual(tally.at("aa"), MOST ** 4)
        self.assertEqual((tally * tally).times(MOST).at("a"), MOST ** 7)
        self.assertEqual((tally + tally.behind("a")).at(""), MOST ** 2 - MOST ** 3)
        self.assertEqual(summed(weighed(tally.ahead("aaa"))).at("a"), MOST ** 6)

    def test_weighed(self):
        for prime, letters in itertools.product(PRIMES, ("a", "ab", "abc")):
            for width in (0, 1, 3):
                tally = some_tally(letters, width, 6, prime)
                weights, sums = weighed(tally), summed(tally)
                for text in texts_over(letters):
                    self.assertEqual(weights.at(text), rest(weight_at(text, tally.at), prime))
                    self.assertEqual(sums.at(text), rest(sum(map(tally.at, selections_of(text))), prime))
                    self.assertEqual(summed(weights).at(text), tally.at(text))
                    self.assertEqual(weighed(sums).at(text), tally.at(text))
                self.assertTrue(len(weights) <= width and len(sums) <= width)
                self.assertEqual({(some.letters, some.prime) for some in (weights, sums)}, {(letters, prime)})

    def test_tally_of(self):
        for prime, letters in itertools.product(PRIMES, ("a", "ab", "abc")):
            for seed in range(4):
                total = Sum(letters, some_weights(letters, 2 * seed, 4, seed), prime=prime)
                tally = tally_of(total)
                starts = {pattern[:end] for pattern in total.weights for end in range(len(pattern) + 1)}
                self.assertLessEqual(len(tally), len(starts))
                self.assertEqual((tally.letters, tally.prime), (letters, prime))
                for text in texts_over(letters):
                    self.assertEqual(tally.at(text), total.at(text))
                    self.assertEqual(weighed(tally).at(text), total.weights.get(text, 0))
        self.assertEqual(len(tally_of(Sum("ab", {}))), 0)
        self.assertLessEqual(len(tally_of(Sum("ab", {"": 5}))), 1)
        long = Sum("ab", {"ab": MOST}).times(MOST)
        self.assertEqual(tally_of(long).at("abb"), 2 * MOST * MOST)


class TallyLimitsTest(Case):
    def test_widths(self):
        for width in (0, 1, 60):
            tally = some_tally("ab", width, 1)
            self.assertEqual(len(tally), width)
            self.assertEqual(tally.at("ab"), number_at((tally.first, tally.moves, tally.last), None, "ab"))
        parts = parts_of("ab", 61, 1)
        self.raised(InvalidOperation, Tally, "ab", *parts)
        self.raised(InvalidOperation, Tally, "ab", *parts, prime=2)

    def test_widths_of_sums_and_products(self):
        wide, narrow, none = unit(30), unit(31), unit(1).times(0)
        for call in (lambda one, other: one + other, lambda one, other: one - other):
            self.assertLessEqual(len(call(wide, wide)), 60)
            self.too_many(60, call, wide, narrow)
            self.too_many(60, call, unit(60), none)
            self.assertEqual(call(unit(60), Tally("ab", (), {"a": (), "b": ()}, ())).at("ab"), 1)
        self.assertLessEqual(len(unit(30) * unit(2)), 60)
        self.assertLessEqual(len(unit(60) * unit(1)), 60)
        self.assertEqual((unit(60) * Tally("ab", (), {"a": (), "b": ()}, ())).at("ab"), 0)
        self.too_many(60, lambda: unit(31) * unit(2))
        self.too_many(60, lambda: unit(8) * unit(8))

    def test_60_and_61_beginnings(self):
        patterns = ["a" * size + "b" for size in range(12)]
        patterns = patterns[:11] + ["b" + "a" * 11, "bb" + "a" * 10, "bab" + "a" * 9, "aab" + "b" * 7]
        starts = {pattern[:end] for pattern in patterns for end in range(len(pattern) + 1)}
        total = Sum("ab", {pattern: 1 for pattern in patterns})
        self.assertEqual(len(starts), 61)
        self.too_many(60, tally_of, total)
        self.too_many(60, tally_of, total.modulo(2))
        less = Sum("ab", {pattern: 1 for pattern in patterns[:-1]} | {"aab" + "b" * 6: 1})
        self.assertLessEqual(len(tally_of(less)), 60)
        self.assertEqual(tally_of(less).at("aabb" * 4), less.at("aabb" * 4))
        self.assertLessEqual(len(tally_of(Sum("ab", {**total.weights, patterns[-1]: 2}, prime=2) + Sum("ab", {}, prime=2))), 60)


class TallyErrorsTest(Case):
    def wrong_rows(self):
        rows = wrong_ones(lambda value: isinstance(value, tuple) and value == (0, 1))
        return rows + [(1, True), (1, None), (1, "1"), (1, MOST + 1), (1, -MOST - 1), [1, 0], (1, (0,)), (1, 0, 0), (1,)]

    def wrong_moves(self, letters):
        right = ((1, 1), (1, 0))
        wrong = wrong_ones(lambda value: False)
        squares = [[(1, 1), (1, 0)], ([1, 1], [1, 0]), ((1, 1), (1, 0), (0, 0)), ((1, 1),), ((1, 1), (1,)), (),
                   ((1, 1), (1, True)), ((1, 1), (1, MOST + 1)), ((1, 1), (1, None)), ((1, 1, 1), (1, 0, 0)), None, "ab"]
        for square in squares:
            wrong += [{**dict.fromkeys(letters, right), letter: square} for letter in letters]
        wrong += [{letter: right for letter in letters[1:]}, {**dict.fromkeys(letters, right), "d": right}]
        wrong += [{**dict.fromkeys(letters[1:], right), 1: right}, dict.fromkeys(letters.upper(), right)]
        return wrong

    def test_constructor(self):
        moves = dict.fromkeys("ab", ((1, 1), (1, 0)))
        firsts = wrong_ones(lambda value: isinstance(value, tuple) and value in ((), (1,), (0, 1, 2))) + [(0,) * 61, [1, 0]]
        firsts += [(1, True), (1, None), (1, MOST + 1), (1, -MOST - 1), ("1", 0)]
        slots = [LETTERS_SLOT, Slot((1, 0), firsts[-9:] + firsts, InvalidOperation),
                 Slot(moves, self.wrong_moves("ab"), InvalidOperation), Slot((1, 0), self.wrong_rows(), InvalidOperation),
                 PRIME_SLOT]
        self.check_slots(Tally, slots)
        self.assertEqual(Tally("ab", (1, 0), moves, (MOST, -MOST), prime=None).prime, None)
        with self.assertRaises(TypeError):
            Tally("ab", (1, 0), moves, (1, 0), 2)

    def test_widths_that_differ(self):
        moves = {"a": ((1, 1), (1, 0))}
        for first, last in (((1,), (1, 0)), ((1, 0), (1,)), ((1, 0, 0), (1, 0, 0)), ((), ()), ((1, 0), ())):
            self.raised(InvalidOperation, Tally, "a", first, moves, last)

    def test_operands(self):
        wide = unit(60)
        no_operands = wrong_ones(lambda value: False)
        for other in [*no_operands, unit(60, "abc"), unit(1, "a"), unit(60).modulo(2), Sum("ab", {"a": 1})]:
            self.raised(InvalidOperation, lambda: wide + other)
            self.raised(InvalidOperation, lambda: wide - other)
            self.raised(InvalidOperation, lambda: wide * other)
        self.raised(InvalidOperation, lambda: wide.modulo(2) * wide.modulo(3))
        self.raised(InvalidOperation, lambda: wide.modulo(2) + wide)

    def test_texts_and_numbers(self):
        tally = unit(2)
        for call in (tally.at, tally.behind, tally.ahead):
            self.check_slots(call, [TEXT_SLOT])
        self.check_slots(tally.times, [Slot(3, wrong_ones(is_plain_integer), InvalidNumber)])
        for some in (tally, tally.modulo(2)):
            self.check_slots(some.modulo, [Slot(3, WRONG_PRIMES, InvalidNumber)])
        self.raised(InvalidOperation, tally.modulo(2).modulo, 2)
        self.raised(InvalidOperation, tally.modulo(2).modulo, 3)

    def test_functions(self):
        self.check_slots(weighed, [TALLY_SLOT])
        self.check_slots(summed, [TALLY_SLOT])
        wrong = wrong_ones(lambda value: isinstance(value, Sum))
        self.check_slots(tally_of, [Slot(Sum("ab", {"ab": 1}), wrong, InvalidSum)])
