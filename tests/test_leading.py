"""[3.1] and stage 3: leading patterns."""

import functools
import itertools
import time

from tests.helpers import Case, Slot, all_texts, every_kind, is_plain_integer, is_some_letters, is_some_text
from tests.helpers import texts_in_order, wrong_ones
from whatcounts.errors import InvalidLetters, InvalidNumber, InvalidOperation, InvalidPattern
from whatcounts.pattern.leading import bracket_of, factors, free_patterns, halves, how_many, is_leading, patterns_of
from whatcounts.word.words import Word

LETTERS_SLOT = Slot("ab", wrong_ones(is_some_letters), InvalidLetters)
WRONG_PATTERNS = wrong_ones(is_some_text("ab", 400)) + ["abc", "aB", "ab" * 200 + "a"]


def leads(pattern):
    """By the words of [3.1]: not empty, and less than each proper end that is not empty."""
    return pattern != "" and all(pattern < pattern[start:] for start in range(1, len(pattern)))


@functools.lru_cache(maxsize=None)
def leading_of(letters, size):
    return [text for text in all_texts(letters, size) if leads(text)]


def ways_apart(pattern):
    """All tuples of parts, none empty, that are the pattern one behind the other."""
    if pattern == "":
        return [()]
    return [(pattern[:end],) + rest for end in range(1, len(pattern) + 1) for rest in ways_apart(pattern[end:])]


def halves_of(pattern):
    ends = [pattern[start:] for start in range(1, len(pattern)) if leads(pattern[start:])]
    longest = max(ends, key=len)
    return pattern[:len(pattern) - len(longest)], longest


def undone(signs):
    return signs[::-1].swapcase()


def shortest_of(signs):
    left = []
    for sign in signs:
        if left and left[-1] == sign.swapcase():
            left.pop()
        else:
            left.append(sign)
    return "".join(left)


@functools.lru_cache(maxsize=None)
def bracket_signs(pattern):
    if len(pattern) == 1:
        return pattern
    one, other = [bracket_signs(half) for half in halves_of(pattern)]
    return shortest_of(one + other + undone(one) + undone(other))


class LeadingTest(Case):
    def test_small_ones(self):
        for letters, size in (("a", 8), ("ab", 9), ("bz", 5), ("abc", 6)):
            for text in all_texts(letters, size):
                self.assertIs(is_leading(letters, text), leads(text), text)

    def test_values_of_every_kind(self):
        for value in every_kind():
            right = isinstance(value, str) and is_some_text("ab", 400)(value) and leads(value)
            self.assertIs(is_leading("ab", value), right)
            self.raised(InvalidLetters, is_leading, "ba", value)
        self.assertIs(is_leading("ab", "a" * 399 + "b"), True)
        self.assertIs(is_leading("ab", "a" * 400 + "b"), False)
        self.assertIs(is_leading("a", "ab"), False)

    def test_factors(self):
        for letters, size in (("ab", 7), ("abc", 5), ("a", 6)):
            for text in all_texts(letters, size):
                right = [parts for parts in ways_apart(text) if all(leads(part) for part in parts)
                         and all(one >= other for one, other in zip(parts, parts[1:]))]
                self.assertEqual([factors(letters, text)], right, text)
        self.assertEqual(factors("ab", "a" * 400), ("a",) * 400)
        self.assertEqual(factors("ab", "b" + "a" * 398 + "b"), ("b", "a" * 398 + "b"))

    def test_halves(self):
        for letters, size in (("ab", 9), ("abc", 6)):
            for pattern in leading_of(letters, size):
                if len(pattern) > 1:
                    self.assertEqual(halves(letters, pattern), halves_of(pattern))
                    self.assertTrue(all(leads(half) for half in halves(letters, pattern)))
        self.assertEqual(halves("ab", "a" * 399 + "b"), ("a", "a" * 398 + "b"))
        self.assertEqual(halves("ab", "a" + "b" * 399), ("a" + "b" * 398, "b"))

    def test_brackets(self):
        checked = set()
        for letters, size in (("ab", 9), ("abc", 6)):
            for pattern in leading_of(letters, size):
                signs = bracket_signs(pattern)
                runs = len(list(itertools.groupby(signs)))
                checked.add((len(pattern), runs <= 200))
                if runs <= 200:
                    word = bracket_of(letters, pattern)
                    self.assertEqual((word.letters, word.shortest(), len(word)), (letters, signs, runs))
                else:
                    self.too_many(200, bracket_of, letters, pattern)
        self.assertTrue({(9, True), (9, False)} <= checked)
        self.assertEqual(bracket_of("bz", "z"), Word.of("bz", "z"))

    def test_long_brackets(self):
        start = time.perf_counter()
        for pattern in ("a" * 399 + "b", "a" + "b" * 399, "a" * 200 + "b" * 200, "aab" * 132 + "aabb", "ab" * 199 + "bb"):
            self.assertTrue(leads(pattern))
            self.too_many(200, bracket_of, "ab", pattern)
        self.assertLess(time.perf_counter() - start, 20)

    def test_a_bracket_outgrows_those_of_its_halves(self):
        for pattern in leading_of("ab", 10):
            if len(pattern) > 1:
                for half in halves_of(pattern):
                    self.assertGreater(len(bracket_signs(pattern)), len(bracket_signs(half)))


class FreePatternsTest(Case):
    def test_all_patterns(self):
        for letters in ("a", "ab", "xyz"):
            for depth in range(1, 6):
                self.assertEqual(patterns_of(letters, depth), tuple(all_texts(letters, depth)[1:]))
        self.assertEqual(patterns_of("ab", 2), ("a", "b", "aa", "ab", "ba", "bb"))

    def test_free_patterns_without_a_prime(self):
        for letters in ("a", "ab", "abc", "bz"):
            for depth in range(1, 6):
                self.assertEqual(free_patterns(letters, depth), tuple(leading_of(letters, depth)))
                self.assertEqual(free_patterns(letters, depth, prime=None), tuple(leading_of(letters, depth)))

    def test_free_patterns_with_each_prime(self):
        for letters, prime in itertools.product(("a", "ab", "abc", "bz"), (2, 3, 5, 7)):
            for depth in range(1, 6):
                powers = [pattern * many for pattern in leading_of(letters, depth)
                          for many in (1, prime, prime ** 2) if len(pattern) * many <= depth]
                self.assertEqual(free_patterns(letters, depth, prime=prime), tuple(texts_in_order(powers)))
        self.assertEqual(free_patterns("a", 5, prime=5), ("a", "aaaaa"))

    def test_how_many(self):
        for letters, most in (("a", 12), ("ab", 12), ("abc", 8)):
            sizes = [len(pattern) for pattern in leading_of(letters, most)]
            for size in range(1, most + 1):
                self.assertEqual(how_many(letters, size), sizes.count(size))

    def test_how_many_of_long_ones(self):
        for letters in ("ab", "abc"):
            numbers = {size: how_many(letters, size) for size in range(1, 401)}
            for size in (1, 2, 36, 37, 210, 360, 397, 400):
                divisors = [number for number in range(1, size + 1) if size % number == 0]
                self.assertEqual(sum(number * numbers[number] for number in divisors), len(letters) ** size)
        self.assertEqual([how_many("z", size) for size in (1, 2, 399, 400)], [1, 0, 0, 0])


class LeadingErrorsTest(Case):
    def test_patterns(self):
        for call in (factors, halves, bracket_of):
            self.check_slots(call, [LETTERS_SLOT, Slot("ab", WRONG_PATTERNS, InvalidPattern)])
        for pattern in ("", "ba", "aa", "abab", "abb" * 2, "b" + "a" * 399):
            self.raised(InvalidOperation, halves, "ab", pattern)
            self.raised(InvalidOperation, bracket_of, "ab", pattern)
        self.raised(InvalidOperation, halves, "ab", "a")

    def test_is_leading(self):
        for letters in LETTERS_SLOT.wrong:
            self.raised(InvalidLetters, is_leading, letters, "ab")
            self.raised(InvalidLetters, is_leading, letters, None)

    def test_depths_and_primes(self):
        depths = Slot(2, wrong_ones(lambda value: is_plain_integer(value) and 1 <= value <= 5), InvalidNumber)
        wrong = wrong_ones(lambda value: value is None or is_plain_integer(value) and value in (2, 3, 5, 7))
        primes = Slot(2, wrong, InvalidNumber, keyword="prime")
        self.check_slots(patterns_of, [LETTERS_SLOT, depths])
        self.check_slots(free_patterns, [LETTERS_SLOT, depths, primes])
        with self.assertRaises(TypeError):
            free_patterns("ab", 2, 2)

    def test_sizes(self):
        wrong = wrong_ones(lambda value: is_plain_integer(value) and 1 <= value <= 400)
        self.check_slots(how_many, [LETTERS_SLOT, Slot(3, [0, 401, *wrong], InvalidNumber)])
