"""[6.1] and stage 6: overlays."""

import itertools
import math

from tests.helpers import MOST, Case, Slot, all_texts, is_plain_integer, is_some_letters, is_some_text, texts_in_order
from tests.helpers import weights_by_numbers, wrong_ones
from tests.test_counts import choose, count_in
from tests.test_sums import some_texts, some_weights
from whatcounts.errors import InvalidLetters, InvalidNumber, InvalidOperation, InvalidPattern, InvalidSum
from whatcounts.sums import overlays as module
from whatcounts.sums.overlays import binomial_of, led, overlays, renamed, turned_round
from whatcounts.sums.sums import Sum
from whatcounts.word.words import Word

PRIMES = (None, 2, 3, 5, 7)
LETTERS_SLOT = Slot("ab", wrong_ones(is_some_letters), InvalidLetters)
SUM_SLOT = Slot(Sum("ab", {"ab": 1, "": 2}), wrong_ones(lambda value: isinstance(value, Sum)), InvalidSum)
WRONG_PATTERNS = wrong_ones(is_some_text("ab", 400)) + ["abc", "ab" * 200 + "a"]


def overlays_of(one, other):
    """By the words of [6.1]: all patterns, and all pairs of sets of places that together are all places."""
    found = {}
    letters = sorted(set(one + other))
    for size in range(max(len(one), len(other)), len(one) + len(other) + 1):
        for signs in itertools.product(letters, repeat=size):
            number = 0
            for left in itertools.combinations(range(size), len(one)):
                if "".join(signs[at] for at in left) == one:
                    number += sum("".join(signs[at] for at in right) == other and len({*left, *right}) == size
                                  for right in itertools.combinations(range(size), len(other)))
            if number:
                found["".join(signs)] = number
    return found


class OverlaysTest(Case):
    def test_constant(self):
        self.assertEqual(module.MAX_OVERLAY, 8)

    def test_against_all_pairs_of_sets_of_places(self):
        patterns = all_texts("ab", 3)
        for one, other in itertools.product(patterns, patterns):
            found = overlays_of(one, other)
            right = tuple((pattern, found[pattern]) for pattern in texts_in_order(found))
            self.assertEqual(overlays("ab", one, other), right)
            self.assertEqual(overlays("abc", other, one), right)
        for one, other in (("abc", "cb"), ("aa", "bca"), ("c", "cabb")):
            self.assertEqual(dict(overlays("abc", one, other)), overlays_of(one, other))

    def test_products_of_counts(self):
        runs = (("a", 3), ("b", -2), ("a", -10 ** 20), ("b", 5))
        for one, other in (("ab", "bba"), ("aab", "ab"), ("baba", "abab"), ("", "aab"), ("aaaa", "aaaa")):
            told = sum(number * count_in(runs, pattern) for pattern, number in overlays("ab", one, other))
            self.assertEqual(told, count_in(runs, one) * count_in(runs, other))

    def test_edges(self):
        self.assertEqual(overlays("ab", "", ""), (("", 1),))
        self.assertEqual(overlays("ab", "abba", ""), (("abba", 1),))
        self.assertEqual(overlays("a", "a" * 8, ""), (("a" * 8, 1),))
        numbers = [math.comb(size, 4) * math.comb(4, size - 4) for size in range(4, 9)]
        self.assertEqual(overlays("a", "aaaa", "aaaa"), tuple(("a" * size, numbers[size - 4]) for size in range(4, 9)))
        self.assertEqual(dict(overlays("ab", "aaaa", "bbbb"))["aaaabbbb"], 1)
        self.assertEqual(len(overlays("ab", "aaaa", "bbbb")), 70)
        self.too_many(8, overlays, "ab", "aaaa", "bbbbb")
        self.too_many(8, overlays, "ab", "", "a" * 9)
        self.too_many(8, overlays, "ab", "ab" * 200, "ab" * 200)
        self.raised(InvalidPattern, overlays, "ab", "a" * 9, "c")

    def test_errors(self):
        slots = [LETTERS_SLOT, Slot("ab", WRONG_PATTERNS, InvalidPattern), Slot("ab", WRONG_PATTERNS, InvalidPattern)]
        self.check_slots(overlays, slots)


class BinomialOfTest(Case):
    def test_against_numbers(self):
        sums = [Sum("ab", {"a": 1}), Sum("ab", {"a": 1, "b": -2, "": 3}), Sum("ab", {"ab": 2, "": -1}), Sum("ab", {"": -4}),
                Sum("ab", {"bb": 1, "a": -1}), Sum("a", {"aa": 3, "a": -5}), Sum("ab", {}), Sum("xyz", {"yx": -1, "z": 1})]
        for total, size in itertools.product(sums, range(5)):
            chosen = binomial_of(total, size)
            self.assertEqual((chosen.prime, chosen.letters), (None, total.letters))
            for text in some_texts(total.letters, size)[:130]:
                self.assertEqual(chosen.at(text), choose(total.at(text), size))

    def test_against_the_weights(self):
        sums = [Sum("ab", {"bab": 1, "a": -1}), Sum("ab", {"bab": 1, "bb": -1}), Sum("ab", {"ab": 1, "ba": -1, "": 2}),
                Sum("ab", {"aa": 1, "bb": 2, "a": -1}), Sum("ab", {"aab": 1}), Sum("a", {"aaa": 5, "": 1})]
        for total, size in itertools.product(sums, range(5)):
            right = weights_by_numbers(total.letters, size * total.degree, lambda text: choose(total.at(text), size))
            if len(right) > 400:
                self.too_many(400, binomial_of, total, size)
            else:
                self.assertEqual(binomial_of(total, size).weights, right)

    def test_long_numbers(self):
        total = Sum("a", {"a": MOST, "": -MOST})
        self.assertEqual(binomial_of(total, 4).at("aaaa"), choose(3 * MOST, 4))

    def test_sizes_at_the_ends(self):
        some = Sum("ab", {"ab": 1, "b": -2})
        self.assertEqual(binomial_of(some, 0).weights, {"": 1})
        self.assertEqual(binomial_of(some, 1), some)
        self.assertEqual(binomial_of(Sum("ab", {}), 0).weights, {"": 1})
        self.assertEqual(binomial_of(Sum("ab", {}), 3).weights, {})
        for size in (-1, 5):
            self.bad_number(size, binomial_of, some, size)

    def test_limits(self):
        self.assertEqual(binomial_of(Sum("a", {"aaa": 1}), 4).degree, 12)
        self.assertEqual(binomial_of(Sum("a", {"a" * 12: 1}), 1).degree, 12)
        self.assertEqual(binomial_of(Sum("a", {"a" * 12: 1}), 0).weights, {"": 1})
        self.too_many(12, binomial_of, Sum("a", {"aaaa": 1}), 4)
        self.too_many(12, binomial_of, Sum("a", {"a" * 7: 1}), 2)
        wide = Sum("abc", {"abc": 1, "cab": -1})
        self.too_many(400, binomial_of, wide, 4)
        self.too_many(400, binomial_of, Sum("ab", {text: 1 for text in all_texts("ab", 4)}), 3)
        full = Sum("ab", {text: 1 for text in all_texts("ab", 8)[:400]})
        self.assertEqual(binomial_of(full, 1), full)
        self.too_many(12, binomial_of, full, 2)
        self.raised(InvalidOperation, binomial_of, full.modulo(2), 2)

    def test_errors(self):
        sizes = wrong_ones(lambda value: is_plain_integer(value) and 0 <= value <= 4)
        self.check_slots(binomial_of, [SUM_SLOT, Slot(2, sizes, InvalidNumber)])
        rests = Sum("ab", {"ab": 1}, prime=2)
        self.raised(InvalidOperation, binomial_of, rests, 2)
        self.bad_number(5, binomial_of, rests, 5)


class TurnedAndRenamedTest(Case):
    def test_turned_round(self):
        for prime, letters in itertools.product(PRIMES, ("a", "ab", "abc")):
            total = Sum(letters, some_weights(letters, 12, 5, 1), prime=prime)
            turned = turned_round(total)
            self.assertEqual((turned.letters, turned.prime, len(turned)), (letters, prime, len(total)))
            self.assertEqual(list(turned.weights), texts_in_order(turned.weights))
            for text in some_texts(letters, 2):
                self.assertEqual(turned.at(text), total.at(text[::-1]))
        self.check_slots(turned_round, [SUM_SLOT])

    def test_renamed(self):
        for prime, (old, new) in itertools.product(PRIMES, (("ab", "xz"), ("ab", "bc"), ("abc", "bxz"), ("z", "a"))):
            total = Sum(old, some_weights(old, 12, 5, 1), prime=prime)
            other = renamed(total, new)
            self.assertEqual((other.letters, other.prime, renamed(other, old)), (new, prime, total))
            self.assertEqual(list(other.weights), texts_in_order(other.weights))
            for text in some_texts(old, 2):
                self.assertEqual(other.at(text.translate(str.maketrans(old, new))), total.at(text))
        self.check_slots(renamed, [SUM_SLOT, LETTERS_SLOT])
        for letters in ("a", "abc", "z"):
            self.raised(InvalidOperation, renamed, Sum("ab", {}), letters)


class LedTest(Case):
    def test_against_numbers(self):
        rows = [{"a": "ab", "b": "b"}, {"x": "ab"}, {"a": "", "b": "aab", "c": "ba"}, {"z": ""}, {"b": "a", "c": "b"},
                {"a": "bb", "b": "a"}]
        for prime, words in itertools.product(PRIMES, rows):
            for seed in range(4):
                total = Sum("ab", some_weights("ab", 6, 4, seed), prime=prime)
                other = led(total, words)
                self.assertEqual((other.letters, other.prime), ("".join(sorted(words)), prime))
                self.assertEqual(list(other.weights), texts_in_order(other.weights))
                self.assertLessEqual(other.degree or 0, total.degree or 0)
                for text in some_texts(other.letters, 4)[:120]:
                    self.assertEqual(other.at(text), total.at("".join(words[sign] for sign in text)))

    def test_edges(self):
        total = Sum("ab", {"a" * 12: 1, "b": -2, "": 7})
        self.assertEqual(led(total, {"a": "a", "b": "b"}), total)
        self.assertEqual(led(total, {"b": "b", "a": "a"}), total)
        self.assertEqual(led(total, {"q": "", "r": ""}).weights, {"": 7})
        eight = led(total, {"x": "a" * 8})
        for many in range(5):
            self.assertEqual(eight.at("x" * many), total.at("a" * 8 * many))
        self.assertEqual(led(Sum("ab", {}), {"x": "ab"}).weights, {})
        self.assertEqual(led(Sum("ab", {"a": 1}, prime=2), {"x": "aa"}).weights, {})
        self.assertEqual(led(Sum("ab", {"ab": MOST}), {"x": "aabb"}).weights, {"x": 4 * MOST, "xx": 4 * MOST})

    def test_limit(self):
        total = Sum("ab", {text: 1 for text in all_texts("ab", 8)[:400]})
        self.too_many(400, led, total, {"a": "aab", "b": "ab", "c": "bbabab"})
        self.too_many(400, led, total.modulo(7), {"a": "ab", "b": "ba", "c": "aa"})
        self.assertEqual(len(led(total, {"y": "a", "z": "b"})), 400)
        self.too_many(400, led, total, {"x": "a", "y": "b", "z": "b"})

    def test_dicts_that_are_none(self):
        wrong = wrong_ones(lambda value: isinstance(value, dict) and value == {"a": "b"})
        for key in ("", "ab", "A", 1, None, True, ("a",), " ", "~", 10 ** 250):
            wrong += [{key: "ab"}, {"a": "ab", key: "a"}]
        for text in ("c", "aB", "a" * 9, "ab" * 2000, None, 1, ["a"], ("a",), True, "a b", Word("ab", ())):
            wrong += [{"a": text}, {"a": "ab", "b": text}]
        wrong += [{"a": "", "b": "", "c": "", "d": ""}, [("a", "ab")]]
        self.check_slots(led, [SUM_SLOT, Slot({"a": "ab"}, wrong, InvalidOperation)])
        full = Sum("ab", {text: 1 for text in all_texts("ab", 8)[:400]})
        for words in wrong:
            self.raised(InvalidOperation, led, full, words)

    def test_no_state_is_shared(self):
        words = {"a": "ab", "b": "b"}
        other = led(Sum("ab", {"ab": 1}), words)
        words["a"] = ""
        self.assertEqual(other.weights, {"a": 1, "aa": 1, "ab": 1})
