"""[0.1], [0.5], [0.7]: the seven `is_..` functions and the constants."""

from tests.helpers import MOST, Case, Slot, every_kind, is_plain_integer, is_some_letters, is_some_text, wrong_ones
from whatcounts.base import names
from whatcounts.base.names import is_integer, is_letters, is_name, is_pattern, is_prime, is_signed, is_text
from whatcounts.errors import InvalidLetters
from whatcounts.word.words import Word

ALPHABET = "abcdefghijklmnopqrstuvwxyz"


class NamesTest(Case):
    def judge(self, call, is_right):
        for value in every_kind():
            with self.subTest(value=str(value)[:80]):
                self.assertIs(call(value), is_right(value))

    def test_constants(self):
        self.assertEqual(names.MAX_NAME, 8)
        self.assertEqual(names.MAX_DIGITS, 200)
        self.assertEqual(names.MAX_TEXT, 4000)
        self.assertEqual(names.MAX_PATTERN, 400)
        self.assertEqual(names.MAX_DEPTH, 5)
        self.assertEqual(names.PRIMES, (2, 3, 5, 7))

    def test_integers(self):
        self.judge(is_integer, is_plain_integer)
        self.assertEqual([is_integer(value) for value in (MOST, MOST + 1, -MOST, -MOST - 1)], [True, False, True, False])
        self.assertEqual([is_integer(True), is_integer(False), is_integer("1"), is_integer(0)], [False] * 3 + [True])

    def test_names(self):
        self.judge(is_name, lambda value: is_some_text(ALPHABET, 8)(value) and value != "")
        self.assertEqual([is_name("abcdefgh"), is_name("abcdefghi"), is_name(""), is_name("zz")], [True, False, False, True])
        self.assertEqual([is_name("Left"), is_name("a\n"), is_name("a_b"), is_name(["a"])], [False] * 4)

    def test_letters(self):
        self.judge(is_letters, is_some_letters)
        right = ["a", "z", "az", "abc", "xyz", "amz"]
        wrong = ["", "ba", "aa", "aba", "aab", "abcd", "A", "aB", "AB", "a b", "a\n", "ab1", "abb"]
        self.assertEqual([is_letters(value) for value in right + wrong], [True] * len(right) + [False] * len(wrong))

    def test_texts(self):
        for letters in ("a", "ab", "bz", "abc"):
            self.judge(lambda value: is_text(letters, value), is_some_text(letters, 4000))
        self.assertEqual([is_text("ab", "ab" * 2000), is_text("ab", "ab" * 2000 + "a")], [True, False])
        self.assertEqual([is_text("ab", ""), is_text("ab", "c"), is_text("ab", "aBa")], [True, False, False])
        self.assertEqual([is_text("ab", "aca"), is_text("ab", "ab\n"), is_text("a", "b")], [False] * 3)

    def test_signed_texts(self):
        for letters in ("a", "ab", "bz", "abc"):
            self.judge(lambda value: is_signed(letters, value), is_some_text(letters + letters.upper(), 4000))
        self.assertEqual([is_signed("ab", "aB" * 2000), is_signed("ab", "aB" * 2000 + "a")], [True, False])
        self.assertEqual([is_signed("ab", "aCa"), is_signed("ab", "aca"), is_signed("ab", "BBAA")], [False, False, True])

    def test_patterns(self):
        for letters in ("a", "ab", "bz", "abc"):
            self.judge(lambda value: is_pattern(letters, value), is_some_text(letters, 400))
        self.assertEqual([is_pattern("ab", "ab" * 200), is_pattern("ab", "ab" * 200 + "a")], [True, False])
        self.assertEqual([is_pattern("ab", ""), is_pattern("ab", "A")], [True, False])

    def test_primes(self):
        self.judge(is_prime, lambda value: not isinstance(value, bool) and value in (2, 3, 5, 7))
        self.assertEqual([number for number in range(-20, 20) if is_prime(number)], [2, 3, 5, 7])

    def test_letters_that_are_none(self):
        for call in (is_text, is_signed, is_pattern):
            self.check_slots(call, [Slot("ab", wrong_ones(is_some_letters), InvalidLetters)] + [Slot("ab", [], None)])
            for value in every_kind():
                self.raised(InvalidLetters, call, "ba", value)

    def test_values_of_the_package(self):
        word = Word("ab", (("a", 1),))
        calls = [is_integer, is_name, is_letters, is_prime]
        self.assertEqual([call(word) for call in calls], [False] * 4)
