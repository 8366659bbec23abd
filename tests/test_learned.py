"""[20.1] and stage 20: functions told back from their numbers at short texts."""

import itertools
import random

from tests.helpers import Case, Slot, all_texts, is_plain_integer, weights_by_numbers, wrong_ones
from tests.test_finite import choices
from tests.test_prime import PAIR, TRI
from tests.test_ranks import sparse
from tests.test_readers import some_reader
from tests.test_sums import some_weights
from tests.test_tallies import LETTERS_SLOT, PRIME_SLOT, WRONG_PRIMES, some_tally
from whatcounts.errors import InvalidNumber
from whatcounts.learn.learned import first_unlike, learned_reader, learned_sum, learned_tally, texts_up_to
from whatcounts.reader.least import least_reader
from whatcounts.reader.readers import Reader
from whatcounts.sums.sums import Sum
from whatcounts.tally.ranks import least_tally, rank
from whatcounts.tally.tallies import Tally

PRIMES = (2, 3, 5, 7)


class Watched:
    """A function that keeps what it is called with."""

    def __init__(self, call):
        self.call = call
        self.texts = []

    def __call__(self, text):
        self.texts.append(text)
        return self.call(text)


def by_numbers(numbers):
    return lambda text: numbers[text]


class TextsTest(Case):
    def test_texts(self):
        for letters in ("a", "z", "ab", "abc", "bxz"):
            for size in range(8):
                self.assertEqual(texts_up_to(letters, size), tuple(all_texts(letters, size)))
        self.assertEqual(len(texts_up_to("abc", 7)), 3280)

    def test_first_unlike(self):
        for letters, size in (("a", 0), ("a", 7), ("ab", 3), ("abc", 4), ("ab", 7)):
            texts = all_texts(letters, size)
            for last in (texts[0], texts[len(texts) // 2], texts[-1]):
                at = texts.index(last)
                one, other = by_numbers({text: 5 for text in texts}), by_numbers({text: 5 if texts.index(text) < at else 6 for text in texts})
                self.assertEqual(first_unlike(letters, size, one, other), last)
                self.assertEqual(first_unlike(letters, size, other, one), last)
                self.assertIsNone(first_unlike(letters, size, other, other))
            one = Watched(len)
            self.assertIsNone(first_unlike(letters, size, one, len))
            self.assertEqual(sorted(one.texts), sorted(texts))
        self.assertEqual(first_unlike("ab", 2, lambda text: 10 ** 300, lambda text: 10 ** 300 + text.count("b")), "b")


class ReadersTest(Case):
    def test_readers(self):
        """Readers of at most so many states, told back from their own answers, and those of one state more."""
        for letters, many, seed in itertools.product(("a", "ab", "abc"), (1, 2, 3, 4, 5), range(8)):
            reader = some_reader(letters, many, seed)
            least = least_reader(reader)
            for most in (1, 2, 3, 4):
                call = Watched(lambda text: (text in reader) * 7)
                learned = learned_reader(letters, most, call)
                self.assertEqual(sorted(call.texts), sorted(all_texts(letters, 2 * most - 1)))
                if len(least) <= most:
                    self.assertEqual(learned, least)
                elif learned is not None:
                    # at short texts another reader can have its answers
                    self.check_answers(letters, most, learned, lambda text: text in reader)

    def check_answers(self, letters, most, learned, call):
        self.assertEqual(least_reader(learned), learned)
        self.assertLessEqual(len(learned), most)
        self.assertTrue(all((text in learned) == call(text) for text in all_texts(letters, 2 * most - 1)))

    def test_all_readers_of_two_states(self):
        """Any answers to short texts: there is a reader exactly if one of all readers has them."""
        for letters in ("a", "ab"):
            readers = {}
            rows = list(itertools.product(range(2), repeat=2))
            for moves in itertools.product(rows, repeat=len(letters)):
                for yes in ((), (0,), (1,), (0, 1)):
                    reader = Reader(letters, dict(zip(letters, moves)), yes)
                    key = tuple(text in reader for text in all_texts(letters, 3))
                    readers[key] = least_reader(reader)
            texts = all_texts(letters, 3)
            source = random.Random(5)
            keys = list(itertools.product((False, True), repeat=4)) if letters == "a" else [
                tuple(source.random() < 0.5 for _ in texts) for _ in range(60)] + list(readers)
            for key in keys:
                numbers = dict(zip(texts, key))
                self.assertEqual(learned_reader(letters, 2, lambda text: -3 if numbers[text] else 0), readers.get(key))

    def test_one_state_more(self):
        for many in (2, 3, 4, 5):
            circle = Reader("a", {"a": tuple(range(1, many)) + (0,)}, (many - 1,))
            self.assertIsNone(learned_reader("a", many - 1, lambda text: int(text in circle)))
            if many <= 4:
                self.assertEqual(learned_reader("a", many, lambda text: int(text in circle)), circle)
        self.assertIsNone(learned_reader("ab", 3, lambda text: int(text in PAIR)))
        self.assertEqual(learned_reader("ab", 4, lambda text: int(text in PAIR)), PAIR)
        self.assertEqual(learned_reader("ab", 3, lambda text: int(text in TRI)), TRI)
        # a chain, whose last state is told by a long text alone
        chain = Reader("a", {"a": (1, 2, 3, 3)}, (3,))
        self.assertEqual(learned_reader("a", 4, lambda text: int(text in chain)), chain)
        self.assertIsNone(learned_reader("a", 3, lambda text: int(text in chain)))

    def test_functions_that_are_none(self):
        self.assertIsNone(learned_reader("ab", 4, lambda text: int(text.count("a") == text.count("b"))))
        self.assertIsNone(learned_reader("ab", 2, lambda text: int(text == "aaa")))
        self.assertIsNone(learned_reader("abc", 4, lambda text: int(text == "ccccccc")))
        self.assertEqual(learned_reader("a", 1, lambda text: 5), Reader("a", {"a": (0,)}, (0,)))
        self.assertEqual(learned_reader("abc", 1, lambda text: 0), Reader("abc", {x: (0,) for x in "abc"}, ()))
        self.assertIsNone(learned_reader("a", 1, len))
        self.assertEqual(learned_reader("a", 4, lambda text: -10 ** 300), Reader("a", {"a": (0,)}, (0,)))


class TalliesTest(Case):
    def test_tallies(self):
        for prime, letters, width, seed in itertools.product(PRIMES, ("a", "ab", "abc"), (1, 2, 3, 4), range(3)):
            for tally in (some_tally(letters, width, seed, prime), sparse(letters, width, seed, prime)):
                for most in (1, 2, 3):
                    call = Watched(lambda text: tally.at(text) + prime * len(text))
                    learned = learned_tally(letters, most, call, prime)
                    self.assertEqual(sorted(call.texts), sorted(all_texts(letters, 2 * most - 1)))
                    if rank(tally) <= most:
                        self.assertEqual(learned, least_tally(tally))
                    elif learned is not None:
                        self.assertEqual((least_tally(learned), learned.prime), (learned, prime))
                        self.assertLessEqual(len(learned), most)
                        for text in all_texts(letters, 2 * most - 1):
                            self.assertEqual(learned.at(text), tally.at(text))

    def test_all_tallies_of_one_row(self):
        """Any numbers at the texts of at most one letter: there is a tally exactly if all are 0 or the first one is not."""
        for prime in (2, 3):
            for numbers in itertools.product(range(prime), repeat=3):
                table = dict(zip(("", "a", "b"), numbers))
                learned = learned_tally("ab", 1, by_numbers(table), prime)
                if not any(numbers):
                    self.assertEqual(learned, Tally("ab", (), {"a": (), "b": ()}, (), prime=prime))
                elif numbers[0] == 0:
                    self.assertIsNone(learned)
                else:
                    shares = [number * pow(numbers[0], prime - 2, prime) % prime for number in numbers]
                    moves = {"a": ((shares[1],),), "b": ((shares[2],),)}
                    self.assertEqual(learned, Tally("ab", (1,), moves, numbers[:1], prime=prime))

    def test_one_rank_more(self):
        for prime in PRIMES:
            for size in (1, 2, 3):
                tally = choices("ab", size, prime)
                for most in (1, 2, 3):
                    right = least_tally(tally) if size + 1 <= most else None
                    if size >= 2 * most:
                        # at all short texts the number is 0
                        right = Tally("ab", (), {"a": (), "b": ()}, (), prime=prime)
                    self.assertEqual(learned_tally("ab", most, tally.at, prime), right)
        self.assertIsNone(learned_tally("ab", 3, lambda text: int(text == "bbbbb"), 2))
        self.assertIsNone(learned_tally("a", 2, lambda text: int(text == "aaa"), 7))

    def test_long_numbers(self):
        tally = learned_tally("a", 3, lambda text: -10 ** 250 * len(text) + 1, 7)
        self.assertEqual([tally.at("a" * size) for size in range(9)], [(-10 ** 250 * size + 1) % 7 for size in range(9)])


class SumsTest(Case):
    def test_sums(self):
        for letters, degree in itertools.product(("a", "ab", "abc"), range(6)):
            for prime in (None,) + PRIMES:
                total = Sum(letters, some_weights(letters, 6, degree, degree), prime=prime)
                call = Watched(total.at)
                self.assertEqual(learned_sum(letters, degree, call, prime=prime), total)
                self.assertEqual(sorted(call.texts), sorted(all_texts(letters, degree)))

    def test_any_numbers(self):
        """There always is one, with the numbers at short texts."""
        source = random.Random(7)
        for letters, degree in (("a", 5), ("ab", 4), ("abc", 3), ("abc", 5)):
            numbers = {text: source.choice([0, 1, -4, 10 ** 250]) for text in all_texts(letters, degree)}
            for prime in (None, 2, 7):
                total = learned_sum(letters, degree, by_numbers(numbers), prime=prime)
                self.assertEqual(total.prime, prime)
                weights = weights_by_numbers(letters, degree, by_numbers(numbers))
                weights = {text: number if prime is None else number % prime for text, number in weights.items()}
                self.assertEqual(total.weights, {text: number for text, number in weights.items() if number != 0})
                for text in all_texts(letters, degree)[:40]:
                    self.assertEqual(total.at(text), numbers[text] if prime is None else numbers[text] % prime)
        self.assertEqual(learned_sum("ab", 5, lambda text: 0), Sum("ab", {}))
        self.assertEqual(learned_sum("ab", 0, lambda text: 4, prime=3), Sum("ab", {"": 1}, prime=3))


class Failing(Exception):
    """What a function raises."""


def failing(text):
    raise Failing(text)


class LearnedErrorsTest(Case):
    def slot(self, right, least, most):
        return Slot(right, wrong_ones(lambda value: is_plain_integer(value) and least <= value <= most) + [most + 1, least - 1], InvalidNumber)

    def test_slots(self):
        self.check_slots(texts_up_to, [LETTERS_SLOT, self.slot(2, 0, 7)])
        self.check_slots(lambda letters, size: first_unlike(letters, size, len, failing), [LETTERS_SLOT, self.slot(2, 0, 7)])
        self.check_slots(lambda letters, most: learned_reader(letters, most, failing), [LETTERS_SLOT, self.slot(2, 1, 4)])
        prime = Slot(2, WRONG_PRIMES, InvalidNumber)
        self.check_slots(lambda letters, most, prime: learned_tally(letters, most, failing, prime), [LETTERS_SLOT, self.slot(2, 1, 3), prime])
        self.check_slots(lambda letters, degree, **named: learned_sum(letters, degree, failing, **named),
                         [LETTERS_SLOT, self.slot(2, 0, 5), PRIME_SLOT])

    def test_functions_that_raise(self):
        for call in (lambda: learned_reader("ab", 2, failing), lambda: learned_tally("ab", 2, failing, 3), lambda: learned_sum("ab", 2, failing),
                     lambda: first_unlike("ab", 2, failing, len), lambda: first_unlike("ab", 2, len, failing)):
            self.assertRaises(Failing, call)
