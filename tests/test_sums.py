"""[0.12] and stage 5: sums."""

import itertools
import random

from tests.helpers import MOST, Case, Slot, all_texts, is_plain_integer, is_some_letters, is_some_text, texts_in_order
from tests.helpers import weights_by_numbers, wrong_ones
from whatcounts.errors import InvalidLetters, InvalidNumber, InvalidOperation, InvalidText, InvalidWord
from whatcounts.sums import sums
from whatcounts.sums.sums import Sum
from whatcounts.word.words import Word

PRIMES = (None, 2, 3, 5, 7)
LETTERS_SLOT = Slot("ab", wrong_ones(is_some_letters), InvalidLetters)
WRONG_PRIMES = wrong_ones(lambda value: is_plain_integer(value) and value in (2, 3, 5, 7))
PRIME_SLOT = Slot(3, [value for value in WRONG_PRIMES if value is not None], InvalidNumber, keyword="prime")
TEXT_SLOT = Slot("ab", wrong_ones(is_some_text("ab", 4000)) + ["abc", "ab" * 2000 + "a"], InvalidText)


def count_of(pattern, text):
    """The count in a text, letter by letter."""
    row = [1] + [0] * len(pattern)
    for sign in text:
        for at in range(len(pattern), 0, -1):
            if pattern[at - 1] == sign:
                row[at] += row[at - 1]
    return row[-1]


def rest(number, prime):
    return number if prime is None else number % prime


def number_at(weights, prime, text):
    return rest(sum(number * count_of(pattern, text) for pattern, number in weights.items()), prime)


def some_weights(letters, many, size, seed):
    source = random.Random(seed)
    texts = ["".join(source.choice(letters) for _ in range(source.randrange(size + 1))) for _ in range(many)]
    return {text: source.choice([1, -1, 2, 3, -4, 6, 10 ** 40, 0, 35]) for text in texts}


def some_texts(letters, seed):
    source = random.Random(seed)
    return all_texts(letters, 4) + ["".join(source.choice(letters) for _ in range(12)) for _ in range(12)]


def many_weights(letters, many):
    return {text: 1 for text in all_texts(letters, 8)[:many]}


class SumTest(Case):
    def test_constants(self):
        self.assertEqual((sums.MAX_DEGREE, sums.MAX_WEIGHTS), (12, 400))

    def test_numbers_at_texts(self):
        for prime, letters in itertools.product(PRIMES, ("a", "ab", "bxz")):
            weights = some_weights(letters, 9, 5, len(letters))
            total = Sum(letters, weights, prime=prime)
            for text in some_texts(letters, 3):
                self.assertEqual(total.at(text), number_at(weights, prime, text))

    def test_long_texts(self):
        weights = {"ab": 1, "": -3, "aab": 2, "b" * 12: 1, "abababababab": 5}
        for text in ("ab" * 2000, "a" * 4000, "aab" * 1333, "b" * 2000 + "a" * 2000):
            for prime in (None, 7):
                self.assertEqual(Sum("ab", weights, prime=prime).at(text), number_at(weights, prime, text))

    def test_numbers_at_words(self):
        for prime in PRIMES:
            weights = some_weights("ab", 9, 4, 8)
            total = Sum("ab", weights, prime=prime)
            for text in all_texts("ab", 6):
                self.assertEqual(total.at_word(Word.of("ab", text)), total.at(text))
            exponents = (1, -1, 4, -10 ** 29 - 3, 10 ** 30 + 1)
            for one, other in itertools.product(exponents, repeat=2):
                word = Word("ab", (("a", one), ("b", other), ("a", -one)))
                counts = {"": 1, "a": 0, "b": other, "ab": one * other, "ba": -one * other, "bb": other * (other - 1) // 2}
                some = {"": 5, "a": 4, "b": -2, "ab": 3, "ba": 10 ** 199, "bb": 1}
                right = sum(number * counts[pattern] for pattern, number in some.items())
                self.assertEqual(Sum("ab", some, prime=prime).at_word(word), rest(right, prime))

    def test_kept_weights(self):
        weights = {"b": 4, "": -6, "ab": 0, "aaa": 3, "ba": 12, "a": 35, "aa": -1}
        self.assertEqual(Sum("ab", weights).weights, {"": -6, "a": 35, "b": 4, "aa": -1, "ba": 12, "aaa": 3})
        self.assertEqual(Sum("ab", weights, prime=2).weights, {"a": 1, "aa": 1, "aaa": 1})
        self.assertEqual(Sum("ab", weights, prime=3).weights, {"a": 2, "b": 1, "aa": 2})
        self.assertEqual(Sum("ab", weights, prime=7).weights, {"": 1, "b": 4, "aa": 6, "ba": 5, "aaa": 3})
        for prime in PRIMES:
            kept = Sum("ab", weights, prime=prime).weights
            self.assertEqual(list(kept), texts_in_order(kept))

    def test_properties(self):
        total = Sum("abc", {"abc": 1, "a" * 12: 3, "": 5}, prime=5)
        self.assertEqual((total.letters, total.prime, total.degree, len(total)), ("abc", 5, 12, 2))
        self.assertEqual(str(total), "sum of 2 counts over abc, modulo 5")
        none = Sum("ab", {"a": 0})
        self.assertEqual((none.letters, none.prime, none.degree, none.weights, len(none)), ("ab", None, None, {}, 0))
        self.assertEqual((str(none), none.at("abab"), none.at_word(Word("ab", ()))), ("sum of 0 counts over ab", 0, 0))
        self.assertEqual(Sum("ab", {"": 2}).degree, 0)
        self.assertEqual(Sum("ab", {"ab": 3, "b": 1}, prime=3).degree, 1)

    def test_equality(self):
        others = [Sum("ab", {"ab": 1}), Sum("ab", {"ab": 1, "b": 3}), Sum("abc", {"ab": 1, "b": 2}), {"ab": 1, "b": 2},
                  Sum("ab", {"ab": 1, "b": 2}, prime=3), Sum("ab", {"ab": 1, "b": 2}, prime=5)]
        self.check_equality(lambda: Sum("ab", {"b": 2, "ab": 1}), others)
        self.assertTrue(Sum("ab", {"b": 2, "a": 0}) == Sum("ab", {"b": 2}))
        self.assertTrue(Sum("ab", {"b": 2, "a": 5}, prime=5) == Sum("ab", {"b": -3}, prime=5))
        self.check_not_iterable(Sum("ab", {"ab": 1}))

    def test_no_state_is_shared(self):
        weights = {"ab": 1, "b": 2}
        total = Sum("ab", weights)
        weights["a"] = 7
        del weights["ab"]
        self.assertEqual(total.weights, {"b": 2, "ab": 1})
        total.weights["aa"] = 4
        total.weights.clear()
        self.assertEqual((total.weights, len(total), total.at("ab")), ({"b": 2, "ab": 1}, 2, 3))
        rests = total.modulo(7)
        rests.weights.clear()
        (total + total).weights.clear()
        self.assertEqual((total.weights, rests.weights), ({"b": 2, "ab": 1}, {"b": 2, "ab": 1}))
        for name, value in (("weights", {}), ("letters", "a"), ("prime", 2), ("degree", 1)):
            with self.assertRaises(AttributeError):
                setattr(total, name, value)


class SumOperatorsTest(Case):
    def test_against_numbers(self):
        for prime, letters in itertools.product(PRIMES, ("a", "ab", "abc")):
            one = Sum(letters, some_weights(letters, 7, 3, 1), prime=prime)
            other = Sum(letters, some_weights(letters, 6, 4, 2), prime=prime)
            results = (one + other, one - other, one * other, one.times(-3))
            for text in some_texts(letters, 5):
                left, right = one.at(text), other.at(text)
                numbers = [rest(number, prime) for number in (left + right, left - right, left * right, -3 * left)]
                self.assertEqual([total.at(text) for total in results], numbers)
            self.assertTrue(all(total.prime == prime and total.letters == letters for total in results))

    def test_products_against_the_weights(self):
        for seed in range(24):
            one, other = Sum("ab", some_weights("ab", 4, 4, seed)), Sum("ab", some_weights("ab", 3, 5, -seed))
            degree = (one.degree or 0) + (other.degree or 0)
            right = weights_by_numbers("ab", degree, lambda text: one.at(text) * other.at(text))
            if len(right) > 400:
                self.too_many(400, lambda: one * other)
            else:
                self.assertEqual((one * other).weights, right)

    def test_behind_and_ahead(self):
        for prime, letters in itertools.product(PRIMES, ("a", "abc")):
            total = Sum(letters, some_weights(letters, 8, 4, 3), prime=prime)
            for end in ("", "a", letters, letters[::-1] * 2, "a" * 40):
                behind, ahead = total.behind(end), total.ahead(end)
                for text in some_texts(letters, 6)[:90]:
                    self.assertEqual(behind.at(text), total.at(text + end))
                    self.assertEqual(ahead.at(text), total.at(end + text))

    def test_modulo(self):
        total = Sum("ab", some_weights("ab", 20, 5, 4))
        for prime in PRIMES[1:]:
            self.assertEqual(total.modulo(prime), Sum("ab", total.weights, prime=prime))
            self.assertEqual((total * total).modulo(prime), total.modulo(prime) * total.modulo(prime))
        self.assertEqual(total.prime, None)

    def test_powers_of_rests_come_round(self):
        for prime in (2, 3):
            total = Sum("ab", some_weights("ab", 6, 2, 9), prime=prime)
            power = total
            for _ in range(prime - 1):
                power = power * total
            self.assertEqual(power, total)
        total = Sum("ab", some_weights("ab", 30, 6, 9), prime=2)
        self.assertEqual(total * total, total)
        self.assertEqual((total * (total + Sum("ab", {"": 1}, prime=2))).weights, {})

    def test_weights_that_come_to_nothing(self):
        one, other = Sum("ab", {"a": 3, "b": 4}), Sum("ab", {"a": -3, "b": 4})
        self.assertEqual((one + other).weights, {"b": 8})
        self.assertEqual((one - other).weights, {"a": 6})
        self.assertEqual((one.modulo(2) + other.modulo(2)).weights, {})
        self.assertEqual((one.modulo(7) + other.modulo(7)).weights, {"b": 1})
        self.assertEqual(one.modulo(5).times(10).weights, {})
        self.assertEqual(one.times(0).weights, {})
        self.assertEqual((one.modulo(3) * other.modulo(3)).weights, {"b": 1, "bb": 2})
        self.assertEqual((one - one).degree, None)
        self.assertEqual(((one - one) * one).weights, {})

    def test_order_of_the_weights(self):
        one, other = Sum("ab", some_weights("ab", 9, 3, 12)), Sum("ab", some_weights("ab", 9, 3, 13))
        for total in (one + other, other - one, one * other, one.behind("abba"), other.ahead("bab"), one.times(-1)):
            self.assertEqual(list(total.weights), texts_in_order(total.weights))

    def test_long_numbers(self):
        total = Sum("ab", {"a": MOST, "": -MOST})
        self.assertEqual(total.times(MOST).weights, {"": -MOST * MOST, "a": MOST * MOST})
        self.assertEqual((total * total).at("aaa"), 4 * MOST * MOST)
        self.assertEqual((total * total + total.times(MOST)).modulo(7).at("aab"), (2 * MOST * MOST) % 7)
        self.assertEqual(total.behind("a" * 4000).weights, {"": 3999 * MOST, "a": MOST})


class SumLimitsTest(Case):
    def test_400_and_401_weights(self):
        self.assertEqual(len(Sum("ab", many_weights("ab", 400))), 400)
        self.too_many(400, Sum, "ab", many_weights("ab", 401))
        self.assertEqual(len(Sum("ab", {**many_weights("ab", 400), "b" * 12: 0})), 400)
        self.assertEqual(len(Sum("ab", {**many_weights("ab", 400), "b" * 12: 14}, prime=7)), 400)
        self.too_many(400, lambda: Sum("ab", {**many_weights("ab", 400), "b" * 12: 15}, prime=7))
        self.raised(InvalidNumber, lambda: Sum("ab", many_weights("ab", 401), prime=4))

    def test_400_and_401_weights_of_operators(self):
        full, one, none = Sum("ab", many_weights("ab", 400)), Sum("ab", {"b" * 12: 1}), Sum("ab", {})
        self.assertEqual(len(full + none), 400)
        self.assertEqual(len(full + full), 400)
        self.assertEqual(len((full + full.times(-1)) + one), 1)
        self.too_many(400, lambda: full + one)
        self.too_many(400, lambda: full - one)
        self.assertEqual(len(full - Sum("ab", {"": 1}) + one), 400)
        self.assertEqual(len(full * Sum("ab", {"": 2})), 400)
        self.assertEqual(len(Sum("a", {"a" * 6: 1}) * Sum("a", {"a" * 6: 1})), 7)
        wide = Sum("abc", {"abcabc": 1})
        self.too_many(400, lambda: wide * Sum("abc", {"aabbcc": 1}))
        self.too_many(400, lambda: full * Sum("ab", {"ab": 1}))

    def test_400_and_401_weights_of_behind_and_ahead(self):
        patterns = ["".join(signs) for signs in itertools.product("ab", repeat=10)][:200]
        for many, ends in ((200, 400), (201, 401)):
            total = Sum("abc", {text + "c": 1 for text in (patterns + ["b" * 10])[:many]})
            turned = Sum("abc", {"c" + text: 1 for text in (patterns + ["b" * 10])[:many]})
            if ends == 400:
                self.assertEqual((len(total.behind("c")), len(turned.ahead("c"))), (400, 400))
            else:
                self.too_many(400, total.behind, "c")
                self.too_many(400, turned.ahead, "c")

    def test_degrees_that_add_up(self):
        for prime in (None, 3):
            six, seven = Sum("a", {"a" * 6: 1}, prime=prime), Sum("a", {"a" * 7: 1}, prime=prime)
            self.assertEqual((six * six).at("a" * 12), rest(924 * 924, prime))
            self.too_many(12, lambda: six * seven)
            twelve, none = Sum("a", {"a" * 12: 1}, prime=prime), Sum("a", {}, prime=prime)
            self.assertEqual([(twelve * none).degree, (none * twelve).degree], [None, None])
            self.assertEqual((twelve * Sum("a", {"": 2}, prime=prime)).degree, 12)
            self.too_many(12, lambda: twelve * Sum("a", {"a": 1}, prime=prime))

    def test_the_degree_of_a_product(self):
        self.assertEqual((Sum("a", {"a" * 6: 1}) * Sum("a", {"a" * 6: 1})).degree, 12)

    def test_the_degrees_come_first(self):
        one, other = Sum("ab", many_weights("ab", 400)), Sum("ab", many_weights("ab", 30))
        self.too_many(400, lambda: one * other)
        self.too_many(12, lambda: one * Sum("ab", {"b" * 5: 1, "a": 1, "ab": 1}))
        self.too_many(12, lambda: Sum("ab", {"b" * 12: 1, "a": 1}) * one)


class SumErrorsTest(Case):
    def wrong_weights(self):
        wrong = wrong_ones(lambda value: isinstance(value, dict) and value in ({}, {"a": 1}, {"": 0}))
        for key in ("a" * 13, "c", "A", 1, None, True, ("a",), "a b", "a" * 401):
            wrong += [{key: 1}, {"a": 2, key: 1}]
        for number in (True, None, "1", (1,), MOST + 1, -MOST - 1, [1]):
            wrong += [{"a": number}, {"": 1, "a": number, "b": 2}]
        return wrong

    def test_constructor(self):
        slots = [LETTERS_SLOT, Slot({"ab": 1}, self.wrong_weights(), InvalidOperation), PRIME_SLOT]
        self.check_slots(Sum, slots)
        slots[1].right = many_weights("ab", 401)
        self.check_slots(Sum, [LETTERS_SLOT, slots[1], PRIME_SLOT])
        self.raised(InvalidLetters, Sum, "ba", many_weights("ab", 401))
        with self.assertRaises(TypeError):
            Sum("ab", {"ab": 1}, 2)
        self.assertEqual(Sum("ab", {"ab": 1}, prime=None).prime, None)
        self.assertEqual(Sum("ab", {"a" * 12: MOST, "b": -MOST}).degree, 12)

    def test_texts_and_words(self):
        total = Sum("ab", many_weights("ab", 400))
        for call in (total.at, total.behind, total.ahead):
            self.check_slots(call, [TEXT_SLOT])
        wrong = wrong_ones(lambda value: isinstance(value, Word))
        self.check_slots(total.at_word, [Slot(Word("ab", ()), wrong, InvalidWord)])
        for word in (Word("a", ()), Word.of("abc", "ab"), Word("bc", ())):
            self.raised(InvalidOperation, total.at_word, word)

    def test_operands(self):
        total = Sum("ab", many_weights("ab", 400))
        no_operands = wrong_ones(lambda value: isinstance(value, Sum) and value.letters == "ab" and value.prime is None)
        for other in [*no_operands, Sum("ab", {"b": 1}, prime=2), Sum("abc", {"b": 1}), Sum("xz", {"x": 1})]:
            self.raised(InvalidOperation, lambda: total + other)
            self.raised(InvalidOperation, lambda: total - other)
            self.raised(InvalidOperation, lambda: total * other)
        for prime in (2, 3):
            rests = Sum("ab", {"a" * 12: 1}, prime=prime)
            for other in (Sum("ab", {"a": 1}), Sum("ab", {"a": 1}, prime=5), Sum("abc", {"a": 1}, prime=prime)):
                self.raised(InvalidOperation, lambda: rests * other)

    def test_numbers(self):
        total = Sum("ab", {"ab": 1})
        self.check_slots(total.times, [Slot(3, wrong_ones(is_plain_integer), InvalidNumber)])
        for some in (total, total.modulo(2)):
            self.check_slots(some.modulo, [Slot(3, WRONG_PRIMES, InvalidNumber)])
        for prime in (2, 3):
            self.raised(InvalidOperation, total.modulo(2).modulo, prime)
