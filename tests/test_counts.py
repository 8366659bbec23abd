"""[0.9], [0.11] and stage 4: counts and weights."""

import fractions
import itertools
import math
import random
import types

from tests.helpers import MOST, Case, Slot, all_texts, is_plain_integer, is_some_letters, is_some_text, texts_in_order
from tests.helpers import wrong_ones
from whatcounts.count import counts
from whatcounts.count.counts import beginnings, binomial, count, scattered, weight, weights_up_to
from whatcounts.errors import InvalidLetters, InvalidNumber, InvalidPattern, InvalidText, InvalidWord
from whatcounts.word.words import Word

LETTERS_SLOT = Slot("ab", wrong_ones(is_some_letters), InvalidLetters)
WORD_SLOT = Slot(Word("ab", (("a", 1),)), wrong_ones(lambda value: isinstance(value, Word)), InvalidWord)
PATTERN_SLOT = Slot("ab", wrong_ones(is_some_text("ab", 400)) + ["abc", "ab" * 200 + "a"], InvalidPattern)
LONG = 10 ** 29 + 7


def places_of(text, pattern):
    """All sets of places at which the pattern is selected, by trying all sets."""
    return [places for places in itertools.combinations(range(len(text)), len(pattern))
            if "".join(text[at] for at in places) == pattern]


def choose(number, size):
    product = fractions.Fraction(1)
    for below in range(size):
        product *= fractions.Fraction(number - below, below + 1)
    return int(product)


def count_in(runs, pattern):
    """By the words of [0.9], run by run."""
    if pattern == "":
        return 1
    if not runs:
        return 0
    letter, exponent = runs[-1]
    stretch = len(pattern) - len(pattern.rstrip(letter))
    return sum(choose(exponent, many) * count_in(runs[:-1], pattern[:len(pattern) - many]) for many in range(stretch + 1))


def weight_at(pattern, call):
    """By the words of [0.11], over all sets of places."""
    return sum((-1) ** (len(pattern) - size) * call("".join(chosen))
               for size in range(len(pattern) + 1) for chosen in itertools.combinations(pattern, size))


def selections_of(pattern):
    return {"".join(chosen) for size in range(len(pattern) + 1) for chosen in itertools.combinations(pattern, size)}


def odd_function(text):
    return len(text) ** 3 - 7 * text.count("ab") + sum((at + 2) * ord(sign) for at, sign in enumerate(text)) % 11


class CountsTest(Case):
    def test_constant(self):
        self.assertEqual(counts.MAX_WEIGHT, 12)

    def test_counts_in_texts(self):
        for letters, size, most in (("ab", 6, 4), ("abc", 4, 3), ("a", 7, 5)):
            for text in all_texts(letters, size):
                word = Word.of(letters, text)
                for pattern in all_texts(letters, most):
                    self.assertEqual(count(word, pattern), len(places_of(text, pattern)))

    def test_beginnings(self):
        for text in ("", "ab", "abbabaab", "bbbaaabbb"):
            word = Word.of("ab", text)
            for pattern in all_texts("ab", 5):
                right = tuple(len(places_of(text, pattern[:end])) for end in range(len(pattern) + 1))
                self.assertEqual(beginnings(word, pattern), right)
        self.assertEqual(beginnings(Word.of("ab", "ab"), ""), (1,))
        self.assertEqual(beginnings(Word("ab", ()), "aba"), (1, 0, 0, 0))

    def test_counts_in_words(self):
        source = random.Random(5)
        exponents = [1, -1, 2, -2, 3, -5, LONG, -LONG, 10 ** 30 - 1, -3 * LONG]
        for letters in ("a", "ab", "abc"):
            for size in range(6):
                runs = Word(letters, tuple((source.choice(letters), source.choice(exponents)) for _ in range(size))).runs
                word = Word(letters, runs)
                for pattern in all_texts(letters, 4):
                    self.assertEqual(count(word, pattern), count_in(runs, pattern))

    def test_counts_of_words_behind_one_another(self):
        one, other = Word.of("ab", "abAbbaBA"), Word("ab", (("b", -LONG), ("a", 3), ("b", 2)))
        for pattern in all_texts("ab", 5):
            parts = [count(one, pattern[:end]) * count(other, pattern[end:]) for end in range(len(pattern) + 1)]
            self.assertEqual(count(one * other, pattern), sum(parts))
            self.assertEqual(count(one * ~one, pattern), int(pattern == ""))

    def test_edges_of_counts(self):
        self.assertEqual([count(Word("ab", ()), text) for text in ("", "a", "ab")], [1, 0, 0])
        self.assertEqual(count(Word("a", (("a", 5),)), "a" * 5), 1)
        self.assertEqual(count(Word("a", (("a", 5),)), "a" * 6), 0)
        self.assertEqual(count(Word("a", (("a", -1),)), "a" * 399), -1)
        self.assertEqual(count(Word("a", (("a", -1),)), "a" * 400), 1)
        self.assertEqual(count(Word("a", (("a", LONG),)), "a" * 400), choose(LONG, 400))
        self.assertEqual(count(Word.of("ab", "ab" * 100), "ab" * 100), 1)
        self.assertEqual(count(Word.of("ab", "ab" * 100), "ab" * 200), 0)
        long = Word("a", (("a", MOST),)).power(400)
        self.assertEqual(count(long, "aa"), choose(400 * MOST, 2))

    def test_binomials(self):
        for number in [*range(-12, 13), 400, -400, LONG, -LONG, MOST, -MOST]:
            for size in (0, 1, 2, 3, 7, 12):
                self.assertEqual(binomial(number, size), choose(number, size))
        self.assertEqual([binomial(number, 0) for number in (-3, 0, 5)], [1, 1, 1])
        self.assertEqual([binomial(400, 400), binomial(399, 400), binomial(0, 400), binomial(-1, 400)], [1, 0, 0, 1])
        self.assertEqual(binomial(1000, 400), math.comb(1000, 400))
        self.assertEqual(binomial(-1000, 399), -math.comb(1398, 399))


class ScatteredTest(Case):
    def test_against_all_sets_of_places(self):
        for letters, size in (("ab", 6), ("abc", 4)):
            for text in all_texts(letters, size):
                for pattern in all_texts(letters, 3):
                    self.assertEqual(list(scattered(letters, text, pattern)), places_of(text, pattern))

    def test_the_order_and_the_number(self):
        text = "abbabaabab" * 2
        for pattern in ("", "a", "abab", "bbaa", "aaabbb"):
            found = list(scattered("ab", text, pattern))
            self.assertEqual(found, sorted(set(found)))
            self.assertEqual(len(found), count(Word.of("ab", text), pattern))
            self.assertTrue(all("".join(text[at] for at in places) == pattern for places in found))

    def test_each_one_as_soon_as_it_is_found(self):
        steps = scattered("ab", "ab" * 2000, "ab" * 200)
        self.assertIsInstance(steps, types.GeneratorType)
        self.assertEqual(next(steps), tuple(range(400)))
        self.assertEqual(next(steps), tuple(range(399)) + (401,))
        self.assertEqual(list(scattered("ab", "a" * 4000, "a" * 200 + "b")), [])
        self.assertEqual(next(scattered("ab", "a" * 3999 + "b", "a" * 399 + "b")), tuple(range(399)) + (3999,))
        self.assertEqual(list(scattered("ab", "b" * 3990 + "ab" * 5, "ab" * 5)), [tuple(range(3990, 4000))])

    def test_edges(self):
        self.assertEqual(list(scattered("ab", "", "")), [()])
        self.assertEqual(list(scattered("ab", "abab", "")), [()])
        self.assertEqual(list(scattered("ab", "", "a")), [])
        self.assertEqual(list(scattered("ab", "ab", "aba")), [])
        self.assertEqual(list(scattered("ab", "aba", "aba")), [(0, 1, 2)])

    def test_errors_come_with_the_first_element(self):
        texts = Slot("abab", wrong_ones(is_some_text("ab", 4000)) + ["abc", "ab" * 2000 + "a"], InvalidText)
        steps = scattered("ba", None, 5)
        self.raised(InvalidLetters, next, steps)
        self.check_slots(lambda *values: next(scattered(*values)), [LETTERS_SLOT, texts, PATTERN_SLOT])


class WeightsTest(Case):
    def test_against_the_alternating_sum(self):
        for call in (odd_function, len, lambda text: text.count("ab"), lambda text: 10 ** 250 * len(text) - 1):
            for pattern in all_texts("ab", 5) + all_texts("abc", 3):
                self.assertEqual(weight("abc", pattern, call), weight_at(pattern, call))
        self.assertEqual(weight("ab", "", lambda text: 7), 7)

    def test_the_function_is_called_for_selections_alone(self):
        for pattern in ("", "a", "abab", "aabbab", "abcabcabcabc"):
            called = []
            weight("abc", pattern, lambda text: called.append(text) or len(text))
            self.assertEqual(set(called), selections_of(pattern))

    def test_twelve_and_thirteen_letters(self):
        for pattern in ("ab" * 6, "abcbca" * 2, "a" * 12):
            self.assertEqual(weight("abc", pattern, odd_function), weight_at(pattern, odd_function))
        called = []
        for pattern in ("a" * 13, "ab" * 200):
            self.too_many(12, weight, "ab", pattern, called.append)
        self.assertEqual(called, [])
        self.raised(InvalidPattern, weight, "a", "ab" * 20, len)
        self.raised(InvalidLetters, weight, "ba", "ab" * 20, len)

    def test_weights_give_the_function_back(self):
        for letters, depth in (("a", 5), ("ab", 4), ("abc", 3), ("ab", 0), ("ab", 1), ("ab", 5)):
            weights = weights_up_to(letters, depth, odd_function)
            for text in all_texts(letters, depth):
                told = sum(number * len(places_of(text, pattern)) for pattern, number in weights.items())
                self.assertEqual(told, odd_function(text))

    def test_what_weights_are_told(self):
        for letters, depth in (("a", 5), ("ab", 4), ("xz", 3)):
            right = {pattern: weight_at(pattern, odd_function) for pattern in all_texts(letters, depth)}
            weights = weights_up_to(letters, depth, odd_function)
            self.assertEqual(weights, {pattern: number for pattern, number in right.items() if number != 0})
            self.assertEqual(list(weights), texts_in_order(weights))
        self.assertEqual(weights_up_to("ab", 5, lambda text: 0), {})
        self.assertEqual(weights_up_to("ab", 0, lambda text: len(text) + 4), {"": 4})
        self.assertEqual(weights_up_to("ab", 5, lambda text: text.count("a")), {"a": 1})

    def test_the_function_is_called_for_short_texts(self):
        called = []
        weights_up_to("ab", 3, lambda text: called.append(text) or 1)
        self.assertEqual(set(called), set(all_texts("ab", 3)))


class CountErrorsTest(Case):
    def test_counts(self):
        for call in (count, beginnings):
            self.check_slots(call, [WORD_SLOT, PATTERN_SLOT])
            self.raised(InvalidPattern, call, Word("a", ()), "ab")

    def test_numbers(self):
        sizes = wrong_ones(lambda value: is_plain_integer(value) and 0 <= value <= 400)
        slots = [Slot(5, wrong_ones(is_plain_integer), InvalidNumber), Slot(2, [-1, 401, *sizes], InvalidNumber)]
        self.check_slots(binomial, slots)

    def test_weights(self):
        self.check_slots(lambda *values: weight(*values, len), [LETTERS_SLOT, PATTERN_SLOT])
        depths = wrong_ones(lambda value: is_plain_integer(value) and 0 <= value <= 5)
        slots = [LETTERS_SLOT, Slot(2, [-1, 6, *depths], InvalidNumber)]
        self.check_slots(lambda *values: weights_up_to(*values, len), slots)
