"""The examples of the document, as they stand there."""

import unittest

from whatcounts.base import names
from whatcounts.pattern import leading
from whatcounts.word import words

VALUES = r'''
>>> SWAP = Word.of("ab", "abAB")
'''

NAMES = r'''
>>> [is_integer(True), is_name("left"), is_letters("ba"), is_text("ab", "aBa"), is_signed("ab", "aBa"), is_pattern("ab", ""), is_prime(5), is_prime(11), is_prime(None)]
[False, True, False, False, True, True, True, False, False]
'''

WORDS = r'''
>>> [SWAP.runs, (SWAP * ~SWAP).runs, Word.of("ab", "abBBa").shortest(), Word("ab", (("a", 2), ("b", 0), ("a", -2))).runs, SWAP.size, SWAP.is_plain(), str(SWAP)]
[(('a', 1), ('b', 1), ('a', -1), ('b', -1)), (), 'aBa', (), 4, False, 'word of 4 runs over ab']
>>> a, b = Word.of("ab", "a"), Word.of("ab", "b")
>>> [a.bracket(b) == SWAP, b.turned(a).shortest(), a.power(-3).runs, (a * b).power(2).shortest()]
[True, 'abA', (('a', -3),), 'abab']
'''

LEADING = r'''
>>> [is_leading("ab", "aab"), is_leading("ab", "abab"), factors("ab", "babaab"), halves("ab", "aabb"), halves("ab", "aabab"), bracket_of("ab", "abb").shortest(), len(patterns_of("ab", 3))]
[True, False, ('b', 'ab', 'aab'), ('a', 'abb'), ('aab', 'ab'), 'abAbaBAB', 14]
>>> [free_patterns("ab", 3), free_patterns("ab", 2, prime=2), free_patterns("a", 5, prime=2), [how_many("ab", size) for size in (1, 2, 3, 4, 5)], how_many("abc", 5)]
[('a', 'b', 'ab', 'aab', 'abb'), ('a', 'b', 'aa', 'ab', 'bb'), ('a', 'aa', 'aaaa'), [2, 1, 2, 3, 6], 48]
'''


def public_names():
    found = {}
    for module in (names, words, leading):
        found.update({name: value for name, value in vars(module).items() if not name.startswith("_")})
    return found


class ExamplesTest(unittest.TestCase):
    def setUp(self):
        self.known = public_names()
        self.follow(VALUES)

    def follow(self, example):
        lines = example.strip().split("\n")
        compared = 0
        for at, line in enumerate(lines):
            code = line.removeprefix(">>> ")
            told = lines[at + 1] if at + 1 < len(lines) and not lines[at + 1].startswith(">>> ") else None
            if line == code:
                continue
            if told is None:
                exec(code, self.known)
            else:
                compared += 1
                with self.subTest(code=code):
                    self.assertEqual(repr(eval(code, self.known)), told)
        return compared

    def test_names(self):
        self.assertEqual(self.follow(NAMES), 1)

    def test_words(self):
        self.assertEqual(self.follow(WORDS), 2)

    def test_leading(self):
        self.assertEqual(self.follow(LEADING), 2)


if __name__ == "__main__":
    unittest.main()
