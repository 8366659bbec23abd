"""[0.17], [0.21], [16.1] and stage 16: readers whose answers are sums modulo a prime."""

import itertools

from tests.helpers import Case, Slot, all_texts, every_kind
from tests.test_falling import PRIME_SLOT
from tests.test_finite import choices
from tests.test_least import READER_SLOT, some_turning, wide
from tests.test_readers import answer, samples, some_reader
from tests.test_turns import cycles, order, told_turn
from whatcounts.errors import InvalidReader
from whatcounts.group.turns import Group
from whatcounts.reader.least import answers, first_merge, is_merge, is_turning, least_reader, reader_where
from whatcounts.reader.readers import Reader
from whatcounts.sums.sums import Sum
from whatcounts.tally.tallies import weighed
from whatcounts.tell.finite import is_finite
from whatcounts.tell.prime import is_by, is_prime_paper, is_round, prime_paper, primes_of, sum_by

PRIMES = (2, 3, 5, 7)
EVEN = Reader("ab", {"a": (1, 0), "b": (0, 1)}, (0,))
PAIR = Reader("ab", {"a": (1, 0, 3, 2), "b": (0, 2, 1, 3)}, (0, 1))
ENDS = Reader("ab", {"a": (1, 1), "b": (0, 0)}, (1,))
TRI = Reader("ab", {"a": (1, 0, 2), "b": (0, 2, 1)}, (0,))
EVERY = EVEN | ~EVEN


def is_power(number, prime):
    while number % prime == 0:
        number //= prime
    return number == 1


def circle(points, yes=(0,), letters="a"):
    return Reader(letters, dict.fromkeys(letters, cycles(points, range(points))), yes)


def copies(reader, many):
    """A reader with so many more states, with the same answers."""
    size = len(reader)
    moves = {x: tuple(row[state % size] + (size if (state * 7 + row[state % size]) % many < many // 2 else 0)
                      for state in range(2 * size)) for x, row in reader.moves.items()}
    return Reader(reader.letters, moves, tuple(state for state in range(2 * size) if state % size in reader.yes))


def turning_ones():
    """Turning readers with groups of at most some hundreds of turns."""
    for total, rest in ((Sum("ab", {"ab": 1}, prime=2), 1), (Sum("ab", {"ab": 1, "a": 2}, prime=3), 2), (Sum("a", {"aaa": 1}, prime=2), 0),
                        (Sum("abc", {"a": 1, "bc": 1}, prime=2), 1), (Sum("ab", {"a": 1, "b": 3}, prime=5), 4),
                        (Sum("ab", {"b": 1}, prime=7), 0), (Sum("ab", {"aab": 1, "": 1}, prime=2), 0), (Sum("a", {"aa": 1}, prime=3), 1)):
        yield reader_where(total, rest)
    for points in (1, 4, 6, 9, 10, 25, 27, 32, 49, 60):
        yield circle(points)
    yield circle(6, (0, 2, 4))
    yield circle(12, (0, 3, 6, 9), "ab")
    for letters, many, seed in itertools.product(("a", "ab", "abc"), (2, 3, 4), range(3)):
        yield some_turning(letters, many, seed)
    yield from (EVEN, PAIR, TRI, EVERY, ~EVERY, copies(PAIR, 3), copies(EVEN, 2), copies(TRI, 4))


class SumsTest(Case):
    def test_by_groups(self):
        for reader in turning_ones():
            many = len(Group.of(reader).all_turns())
            by = [prime for prime in PRIMES if is_power(many, prime)]
            self.assertEqual(primes_of(reader), tuple(by))
            self.assertIn(len(by), (0, 1, 4))
            self.assertEqual(len(by) == 4, len(least_reader(reader)) == 1)
            for prime in PRIMES:
                self.assertIs(is_by(reader, prime), prime in by)
                self.assertIs(is_finite(answers(reader, prime=prime)), prime in by)

    def test_sums(self):
        for reader in turning_ones():
            for prime in primes_of(reader):
                if len(least_reader(reader)) > 12:
                    continue
                total = sum_by(reader, prime)
                self.assertEqual((total.prime, total.letters), (prime, reader.letters))
                for text in all_texts(reader.letters, 13 if reader.letters == "a" else 5):
                    self.assertEqual(total.at(text), int(answer(reader, text)))
                paper = ("sum", tuple(total.weights.items()))
                self.assertEqual(prime_paper(reader, prime), paper)
                self.assertTrue(is_prime_paper(reader, prime, paper))
            for prime in PRIMES:
                if not is_by(reader, prime):
                    self.assertIsNone(sum_by(reader, prime))

    def test_readers_that_are_not_turning(self):
        for reader in [*samples(), ENDS, copies(ENDS, 3)]:
            turning = is_turning(reader)
            for prime in PRIMES:
                if not turning:
                    self.assertIs(is_by(reader, prime), False)
                    self.assertIsNone(sum_by(reader, prime))
                    self.assertEqual(prime_paper(reader, prime), ("merge",) + first_merge(reader))
                self.assertIs(is_by(reader, prime), is_finite(answers(reader, prime=prime)))
            if not turning:
                self.assertEqual(primes_of(reader), ())

    def test_many_states(self):
        for letters, seed in itertools.product(("a", "ab", "abc"), range(3)):
            small, reader = wide(letters, 60, seed)
            self.assertEqual(primes_of(reader), primes_of(small))
            for prime in PRIMES:
                self.assertEqual(sum_by(reader, prime), sum_by(small, prime))
                paper = prime_paper(small, prime)
                self.assertTrue(is_prime_paper(reader, prime, paper))
        self.assertEqual(primes_of(some_reader("abc", 60, 1)), ())
        self.assertEqual(primes_of(some_turning("ab", 60, 1)), ())
        self.assertEqual(primes_of(some_turning("ab", 32, 1)), ())
        self.assertEqual(primes_of(some_turning("ab", 49, 1)), ())

    def test_answers_that_are_alike(self):
        for reader, number in ((EVERY, 1), (~EVERY, 0), (Reader("a", {"a": (0,)}, ()), 0),
                               (Reader("abc", dict.fromkeys("abc", (1, 2, 2)), (0, 1, 2)), 1)):
            self.assertEqual(primes_of(reader), PRIMES)
            for prime in PRIMES:
                weights = {"": number} if number else {}
                self.assertEqual(sum_by(reader, prime), Sum(reader.letters, weights, prime=prime))
                self.assertEqual(prime_paper(reader, prime), ("sum", tuple(weights.items())))
                self.assertTrue(is_prime_paper(reader, prime, ("sum", tuple(weights.items()))))
                self.assertFalse(is_prime_paper(reader, prime, ("sum", (("", 1 - number),))))

    def test_no_sum_though_letters_have_right_orders(self):
        """Each letter leads all states back after a power of 2 times, and yet the answers are no sum modulo 2."""
        reader = Reader("ab", {"a": (1, 0, 2, 3), "b": (1, 2, 3, 0)}, (0,))
        self.assertEqual((primes_of(reader), len(Group.of(reader).all_turns())), ((), 24))
        self.assertEqual(primes_of(TRI), ())
        self.assertTrue(is_prime_paper(TRI, 2, ("round", "ab", 3)))


class LimitsTest(Case):
    def test_degrees(self):
        """The answer yes at every so many letters alone is a sum of one degree less."""
        for points, prime in ((8, 2), (9, 3), (5, 5), (7, 7)):
            self.assertEqual(sum_by(circle(points), prime).degree, points - 1)
            self.assertEqual(sum_by(circle(points, letters="ab" if points == 5 else "a"), prime).degree, points - 1)
        for points, prime in ((16, 2), (32, 2), (27, 3), (25, 5), (49, 7)):
            for call in (sum_by, prime_paper):
                self.too_many(12, call, circle(points), prime)
            self.assertTrue(is_by(circle(points), prime))
            self.assertEqual(primes_of(circle(points)), (prime,))
            # of the weights of a reader over one letter each is told by a pattern
            weights = weighed(answers(circle(points), prime=prime))
            pairs = [("a" * size, weights.at("a" * size)) for size in range(points) if weights.at("a" * size) != 0]
            self.assertTrue(is_prime_paper(circle(points), prime, ("sum", tuple(pairs))))
            self.assertFalse(is_prime_paper(circle(points), prime, ("sum", tuple(pairs[:-1]))))
        self.assertEqual(sum_by(reader_where(Sum("a", {"a" * 12: 1}, prime=2), 1), 2).weights, {"a" * 12: 1})

    def test_weights(self):
        for letters, points, prime, many in (("ab", 8, 2, 255), ("abc", 8, 2, 3280), ("abc", 5, 5, 121), ("ab", 9, 3, 511)):
            reader = circle(points, letters=letters)
            if many <= 400:
                self.assertEqual(len(sum_by(reader, prime)), many)
                self.assertTrue(is_prime_paper(reader, prime, prime_paper(reader, prime)))
            else:
                for call in (sum_by, prime_paper):
                    self.too_many(400, call, reader, prime)
                self.assertFalse(is_prime_paper(reader, prime, ("sum", ())))
                few = tuple((text, 1) for text in all_texts(letters, points - 1)[:400])
                self.assertFalse(is_prime_paper(reader, prime, ("sum", few)))
            self.assertTrue(is_by(reader, prime))
            self.assertIsNone(sum_by(reader, 7))
        self.too_many(12, prime_paper, circle(16, letters="abc"), 2)

    def test_great_groups(self):
        reader = some_turning("ab", 60, 1)
        self.too_many(2000, prime_paper, reader, 2)
        self.assertEqual([is_by(reader, prime) for prime in PRIMES], [False] * 4)
        self.assertIsNone(sum_by(reader, 3))
        number = order(Group.of(reader).moves["a"])
        for prime in PRIMES:
            self.assertIs(is_round(reader, prime, ("a", number)), not is_power(number, prime))
            self.assertIs(is_prime_paper(reader, prime, ("round", "a", number)), not is_power(number, prime))
            self.assertFalse(is_prime_paper(reader, prime, ("sum", ())))
        # a sum is told though the group has more than 2000 turns
        total = Sum("abc", {"aabc": 1}, prime=3)
        late = reader_where(total, 1)
        self.too_many(2000, Group.of(late).all_turns)
        # 1 for the rest 1, 0 for the others: the numbers times their squares plus two of them
        self.assertEqual(sum_by(late, 3), (total * total + total).times(2))
        self.assertEqual(prime_paper(late, 3), ("sum", tuple(sum_by(late, 3).weights.items())))
        self.too_many(2000, prime_paper, late, 2)
        self.assertTrue(is_prime_paper(late, 2, ("round", "a", 3)))
        merges = some_reader("abc", 60, 1)
        self.assertEqual(prime_paper(merges, 2)[0], "merge")


class RoundsTest(Case):
    def test_rounds(self):
        for reader in turning_ones():
            if len(least_reader(reader)) > 12:
                continue
            group = Group.of(reader)
            for text in all_texts(reader.letters, 4 if reader.letters != "abc" else 2):
                number = order(told_turn(group, text))
                for prime in PRIMES:
                    right = not is_power(number, prime)
                    self.assertIs(is_round(reader, prime, (text, number)), right)
                    self.assertIs(is_prime_paper(reader, prime, ("round", text, number)), right)
                    for other in (0, -number, 2 * number, 7 * number, number + 1, 1, True, None, str(number), 10 ** 199, (number,)):
                        if other != number or other is True:
                            self.assertIs(is_round(reader, prime, (text, other)), False)
            for prime in PRIMES:
                paper = prime_paper(reader, prime)
                self.assertTrue(is_prime_paper(reader, prime, paper))
                self.assertEqual(paper[0] == "round", not is_by(reader, prime))

    def test_readers_that_are_not_turning(self):
        for reader in (ENDS, some_reader("ab", 5, 2), Reader("ab", {"a": (1, 0), "b": (0, 0)}, (1,))):
            self.assertFalse(is_turning(reader))
            for prime, text, number in itertools.product(PRIMES, ("", "a", "b", "ab"), range(7)):
                self.assertIs(is_round(reader, prime, (text, number)), False)
                self.assertIs(is_prime_paper(reader, prime, ("round", text, number)), False)

    def test_long_texts(self):
        six = circle(6)
        for size in (3999, 4000, 4001):
            for prime in PRIMES:
                for number in (1, 2, 3, 6):
                    right = size <= 4000 and order(told_turn(Group.of(six), "a" * size)) == number and not is_power(number, prime)
                    self.assertIs(is_round(six, prime, ("a" * size, number)), right)
        self.assertTrue(is_round(six, 2, ("a" * 3998, 3)))
        self.assertTrue(is_round(six, 5, ("a" * 3997, 6)))

    def test_every_kind(self):
        for reader in (EVEN, PAIR, ENDS, TRI, EVERY):
            for value in every_kind():
                for made in (value, ("a", value), (value, 2), ("a", 2, value), ["a", 2]):
                    right = isinstance(made, tuple) and len(made) == 2 and type(made[1]) is int and isinstance(made[0], str)
                    right = right and set(made[0]) <= set("ab") and len(made[0]) <= 4000 and is_turning(reader)
                    right = right and made[1] == order(told_turn(Group.of(reader), made[0])) in (2, 4, 6)
                    self.assertIs(is_round(reader, 3, made), right, str(made)[:60])


class PapersTest(Case):
    def test_merges(self):
        for reader in (ENDS, some_reader("ab", 4, 1), some_reader("abc", 3, 5), PAIR):
            texts = all_texts(reader.letters, 2)
            for prime, letter, one, other in itertools.product((2, 7), reader.letters, texts, texts):
                right = is_merge(reader, (letter, one, other))
                self.assertIs(is_prime_paper(reader, prime, ("merge", letter, one, other)), right)
                self.assertFalse(right and reader == PAIR)

    def test_just_one_form(self):
        for reader in (ENDS, EVEN, PAIR, TRI, EVERY, circle(8), circle(6)):
            for prime in PRIMES:
                papers = {prime_paper(some, other) for some in (ENDS, EVEN, PAIR, TRI, circle(8), circle(6)) for other in PRIMES
                          if some.letters == reader.letters}
                right = {paper[0] for paper in papers if is_prime_paper(reader, prime, paper)} | {prime_paper(reader, prime)[0]}
                self.assertEqual(len(right), 1)

    def test_wrong_papers(self):
        right = ("sum", (("", 1), ("ab", 1)))
        self.assertTrue(is_prime_paper(PAIR, 2, right))
        for value in (("sum", (("ab", 1), ("", 1))), ("sum", (("", 1), ("ab", 3))), ("sum", (("", True), ("ab", 1))), list(right), ("sum",),
                      ("sum", [("", 1), ("ab", 1)]), right + ((),), ("sum", (["", 1], ("ab", 1))), ("Sum", right[1]), ("sum", right[1], None),
                      (), ("",), ("merge",), ("round",), ("merge", "a", "", "a"), ("round", "ab", 4), ("endless", "aaaaa"), "sum", None):
            self.assertIs(is_prime_paper(PAIR, 2, value), False)
        for prime in (3, 5, 7):
            self.assertIs(is_prime_paper(PAIR, prime, right), False)
            self.assertIs(is_prime_paper(PAIR, prime, ("round", "ab", 4)), True)
        for reader, value in itertools.product((EVEN, ENDS, EVERY, TRI), every_kind()):
            self.assertIs(is_prime_paper(reader, 2, value), False)
            self.assertIs(is_prime_paper(reader, 2, ("merge", "a", "", value)), reader == ENDS and isinstance(value, str) and
                          set(value) <= set("ab") and len(value) <= 4000 and value.endswith("a"))
            self.assertIs(is_prime_paper(reader, 2, (value, "a", 2)), False)
        self.assertFalse(is_prime_paper(EVEN, 3, ("round", "a", 2, 2)))
        self.assertFalse(is_prime_paper(EVEN, 3, ("round", ("a", 2))))

    def test_choices(self):
        """The number of letters, chosen so many at a time, modulo the prime."""
        for prime, size in ((2, 3), (3, 2), (5, 2), (7, 1)):
            total = Sum("a", {"a" * size: 1}, prime=prime)
            for rest in range(prime):
                reader = reader_where(total, rest)
                told = sum_by(reader, prime)
                for text in all_texts("a", 30):
                    self.assertEqual(told.at(text), int(total.at(text) == rest))
        self.assertFalse(is_finite(answers(circle(6), prime=2)))
        self.assertTrue(is_finite(choices("ab", 3, 2)))


class PrimeErrorsTest(Case):
    def test_slots(self):
        reader = Slot(EVEN, READER_SLOT.wrong, InvalidReader)
        for call in (is_by, sum_by, prime_paper):
            self.check_slots(call, [reader, PRIME_SLOT])
        self.check_slots(primes_of, [reader])
        for value in (None, ("a", 2), ("round", "a", 2), ("sum", ())):
            self.check_slots(lambda *parts: is_round(*parts, value), [reader, PRIME_SLOT])
            self.check_slots(lambda *parts: is_prime_paper(*parts, value), [reader, PRIME_SLOT])
        for prime in (11, 1, 4, None, True):
            for call in (is_by, sum_by, prime_paper):
                self.bad_number(prime, call, ENDS, prime)
                self.bad_number(prime, call, some_turning("ab", 60, 1), prime)
