"""[0.8] and stage 2: words."""

import itertools
import random

from tests.helpers import MOST, Case, Slot, is_plain_integer, is_some_letters, is_some_text, wrong_ones
from whatcounts.errors import InvalidLetters, InvalidNumber, InvalidOperation, InvalidText, InvalidWord
from whatcounts.sums.sums import Sum
from whatcounts.word import words
from whatcounts.word.words import Word

LETTERS_SLOT = Slot("ab", wrong_ones(is_some_letters), InvalidLetters)
WRONG_WORDS = wrong_ones(lambda value: isinstance(value, Word))


def alternating(many, exponent=1, letters="ab"):
    """So many runs."""
    return tuple((letters[at % len(letters)], exponent) for at in range(many))


def shortest_of(signs):
    """The shortest signed text, by taking out neighbours that undo one another, one pair at a time."""
    while True:
        for at in range(len(signs) - 1):
            if signs[at] == signs[at + 1].swapcase():
                signs = signs[:at] + signs[at + 2:]
                break
        else:
            return signs


def some_signs(letters, size, seed):
    source = random.Random(seed)
    return "".join(source.choice(letters + letters.upper()) for _ in range(size))


def undone(signs):
    return signs[::-1].swapcase()


class WordTest(Case):
    def test_constants(self):
        self.assertEqual((words.MAX_RUNS, words.MAX_POWER), (200, 400))

    def test_neighbours_are_put_together(self):
        cases = [((), ()), ((("a", 0),), ()), ((("a", 2), ("b", 0), ("a", -2)), ()),
                 ((("a", 1), ("a", 2), ("b", 3)), (("a", 3), ("b", 3))),
                 ((("a", 1), ("b", 1), ("b", -1), ("a", 2)), (("a", 3),)),
                 ((("b", 1), ("a", 1), ("b", 2), ("b", -2), ("a", -1), ("b", -1), ("a", 5)), (("a", 5),)),
                 ((("a", 1), ("b", 1), ("b", -1), ("a", -1), ("b", 7)), (("b", 7),)),
                 ((("a", 0), ("a", 0), ("b", 1), ("a", 0), ("b", 1)), (("b", 2),)),
                 ((("a", 1), ("b", 1), ("a", -1), ("b", -1)), (("a", 1), ("b", 1), ("a", -1), ("b", -1)))]
        for given, left in cases:
            with self.subTest(given=given):
                self.assertEqual(Word("ab", given).runs, left)

    def test_long_exponents(self):
        self.assertEqual(Word("a", (("a", MOST), ("a", MOST))).runs, (("a", 2 * MOST),))
        self.assertEqual(Word("a", (("a", MOST),)).power(-400).runs, (("a", -400 * MOST),))
        self.assertEqual(Word("ab", (("a", MOST), ("b", -MOST), ("b", MOST), ("a", -MOST))).runs, ())
        long = Word("a", (("a", MOST),)).power(400)
        self.assertEqual((long * long).runs, (("a", 800 * MOST),))
        self.assertEqual((long * ~long).runs, ())
        self.assertEqual((~long).size, 400 * MOST)

    def test_signed_texts(self):
        for seed in range(60):
            signs = some_signs("abc"[:1 + seed % 3], seed % 23, seed)
            letters = "abc"[:1 + seed % 3]
            word = Word.of(letters, signs)
            left = shortest_of(signs)
            self.assertEqual(word.shortest(), left)
            self.assertEqual(word.size, len(left))
            runs = [(key, len(list(stretch))) for key, stretch in itertools.groupby(left)]
            self.assertEqual(word.runs, tuple((key.lower(), many if key.islower() else -many) for key, many in runs))
            self.assertEqual(len(word), len(runs))
            self.assertEqual(word.is_plain(), left == left.lower())

    def test_operators_against_signed_texts(self):
        for seed in range(80):
            one, other = some_signs("ab", seed % 9, seed), some_signs("ab", seed % 7, -seed)
            first, second = Word.of("ab", one), Word.of("ab", other)
            self.assertEqual((first * second).shortest(), shortest_of(one + other))
            self.assertEqual((~first).shortest(), shortest_of(undone(one)))
            self.assertEqual(first.turned(second).shortest(), shortest_of(other + one + undone(other)))
            bracket = shortest_of(one + other + undone(one) + undone(other))
            self.assertEqual(first.bracket(second).shortest(), bracket)
            for number in range(-4, 5):
                signs = one * number if number >= 0 else undone(one) * -number
                self.assertEqual(first.power(number).shortest(), shortest_of(signs))

    def test_powers_at_the_ends(self):
        word = Word("ab", (("a", 3), ("b", 1), ("a", -3)))
        for number in (400, -400, 399, -399, 1, -1):
            self.assertEqual(word.power(number).runs, (("a", 3), ("b", number), ("a", -3)))
        self.assertEqual(word.power(0).runs, ())
        self.assertEqual(Word("ab", ()).power(-400).runs, ())
        self.assertEqual(len(Word("ab", alternating(2)).power(100)), 200)
        self.assertEqual(len(Word("ab", alternating(2)).power(-100)), 200)
        self.too_many(200, Word("ab", alternating(2)).power, 101)
        self.too_many(200, Word("ab", alternating(2)).power, -400)
        for number in (401, -401, 10 ** 30, MOST + 1, True, None, "1", (1,), 10 ** 299):
            self.bad_number(number, word.power, number)

    def test_most_runs(self):
        self.assertEqual(len(Word("ab", alternating(200))), 200)
        self.too_many(200, Word, "ab", alternating(201))
        back = tuple((letter, -1) for letter, _ in alternating(201)[::-1])
        self.assertEqual(Word("ab", alternating(201) + back).runs, ())
        self.assertEqual(len(Word("ab", alternating(201) + back[:1])), 200)
        self.assertEqual(len(Word.of("ab", "ab" * 100)), 200)
        self.too_many(200, Word.of, "ab", "ab" * 100 + "a")
        self.assertEqual(Word.of("ab", "a" * 4000).runs, (("a", 4000),))
        self.assertEqual(Word.of("ab", "ab" * 1000 + "BA" * 1000).runs, ())

    def test_most_runs_of_operators(self):
        half, full = Word("ab", alternating(100)), Word("ab", alternating(200))
        self.assertEqual(len(half * half), 200)
        self.too_many(200, lambda: half * Word("ab", alternating(101)))
        self.assertEqual(len(full * Word.of("ab", "b")), 200)
        self.assertEqual(len(full * Word.of("ab", "BA")), 198)
        self.assertEqual(len(Word.of("ab", "A") * full), 199)
        self.assertEqual((full * ~full).runs, ())
        self.too_many(200, lambda: full * Word.of("ab", "a"))

    def test_only_the_runs_of_a_result_count(self):
        full, letter = Word("ab", alternating(200)), Word.of("ab", "a")
        self.assertEqual(full.turned(full), full)
        self.assertEqual(full.bracket(full).runs, ())
        self.assertEqual(full.turned(~full), full)
        self.too_many(200, full.bracket, letter)
        self.too_many(200, letter.turned, full)
        self.assertEqual(len(Word.of("ab", "b").turned(Word("ab", alternating(100)))), 199)
        self.too_many(200, letter.turned, Word("ab", alternating(100)))

    def test_shortest_at_the_ends(self):
        self.assertEqual(Word("a", (("a", 4000),)).shortest(), "a" * 4000)
        self.assertEqual(Word("ab", (("a", -1), ("b", 3999))).shortest(), "A" + "b" * 3999)
        self.too_many(4000, Word("a", (("a", 4001),)).shortest)
        self.too_many(4000, Word("ab", (("a", -1), ("b", 4000))).shortest)
        self.too_many(4000, Word("a", (("a", -MOST),)).shortest)
        self.assertEqual(Word("a", ()).shortest(), "")

    def test_empty_word(self):
        empty = Word("abc", ())
        self.assertEqual((empty.runs, empty.size, len(empty), empty.is_plain(), list(empty)), ((), 0, 0, True, []))
        self.assertEqual(Word.of("abc", ""), empty)
        self.assertEqual([~empty, empty * empty, empty.bracket(empty), empty.turned(empty)], [empty] * 4)
        self.assertEqual(str(empty), "word of 0 runs over abc")

    def test_parts_and_iteration(self):
        word = Word.of("ab", "abAAB")
        self.assertEqual(list(word), [("a", 1), ("b", 1), ("a", -2), ("b", -1)])
        self.assertEqual([word[at] for at in range(4)], list(word))
        self.assertEqual(list(iter(word)), list(word.runs))
        self.assertEqual((len(word), str(word), word.letters), (4, "word of 4 runs over ab", "ab"))
        self.assertIn(("b", 1), word)
        is_index = [0, 1, 2, 3]
        for value in [4, *wrong_ones(lambda value: is_plain_integer(value) and value in is_index), slice(0, 1)]:
            self.bad_number(value, lambda: word[value])
        self.bad_number(0, lambda: Word("a", ())[0])

    def test_equality(self):
        others = [Word("abc", (("a", 2), ("b", 1))), Word("ab", (("a", 2),)), Word("ab", (("a", 2), ("b", -1))),
                  (("a", 2), ("b", 1)), Word("bc", (("b", 2), ("c", 1)))]
        self.check_equality(lambda: Word("ab", (("a", 2), ("b", 1))), others)
        self.assertTrue(Word("ab", (("a", 2), ("b", 1))) == Word.of("ab", "aab"))

    def test_a_word_never_changes(self):
        runs = (("a", 1), ("b", 2))
        word, other = Word("ab", runs), Word.of("ab", "BA")
        word.power(5), word * other, ~word, word.turned(other), word.bracket(other), word.shortest()
        self.assertEqual((word.runs, word.letters, runs), (runs, "ab", (("a", 1), ("b", 2))))
        self.assertEqual(other, Word.of("ab", "BA"))
        for name, value in (("runs", ()), ("letters", "a"), ("size", 1)):
            with self.assertRaises(AttributeError):
                setattr(word, name, value)
        self.assertEqual(word, Word("ab", runs))


class WordErrorsTest(Case):
    def wrong_runs(self):
        wrong = wrong_ones(lambda value: value in ((), (("a", 1),)) and isinstance(value, tuple))
        for pair in (("c", 1), ("", 1), ("ab", 1), ("A", 1), (1, "a"), ("a",), ("a", 1, 1), ["a", 1], ("a", True),
                     ("a", None), ("a", "1"), ("a", MOST + 1), ("a", -MOST - 1), "a1", {"a": 1}, (None, 1), (("a",), 1)):
            wrong += [(pair,), (("a", 1), pair), (pair, ("b", 2))]
        return [*wrong, [("a", 1)], "a", {"a": 1}]

    def test_constructor(self):
        self.check_slots(Word, [LETTERS_SLOT, Slot((("a", 1),), self.wrong_runs(), InvalidOperation)])
        self.check_slots(Word, [LETTERS_SLOT, Slot(alternating(201), self.wrong_runs(), InvalidOperation)])
        self.too_many(200, Word, "ab", alternating(201))

    def test_of(self):
        wrong = wrong_ones(is_some_text("abAB", 4000)) + ["abc", "ab" * 2000 + "a", "a b", ["a"]]
        self.check_slots(Word.of, [LETTERS_SLOT, Slot("aB", wrong, InvalidText)])
        self.raised(InvalidLetters, Word.of, "ba", "ab" * 101)

    def test_operators(self):
        word = Word.of("ab", "ab")
        for other in [*WRONG_WORDS, Word("a", ()), Word.of("abc", "ab"), Word("bc", ()), Sum("ab", {"ab": 1})]:
            self.raised(InvalidOperation, lambda: word * other)
        self.raised(InvalidOperation, lambda: Word("ab", alternating(200)) * Word("abc", alternating(200)))

    def test_turned_and_bracket(self):
        word, full = Word.of("ab", "ab"), Word("ab", alternating(200))
        for call in (word.turned, word.bracket, full.turned, full.bracket):
            self.check_slots(call, [Slot(word, WRONG_WORDS, InvalidWord)])
            for other in (Word("a", ()), Word.of("abc", "ab"), Word("abc", alternating(200, 1, "abc"))):
                self.raised(InvalidOperation, call, other)

    def test_numbers(self):
        wrong = wrong_ones(lambda value: is_plain_integer(value) and -400 <= value <= 400)
        self.check_slots(Word.of("ab", "ab").power, [Slot(1, wrong, InvalidNumber)])
