"""Stage 10: least readers, merges, and readers that come of sums."""

import itertools
import random

from tests.helpers import Case, Slot, all_texts, every_kind, is_plain_integer, wrong_ones
from tests.test_readers import answer, samples, some_reader, told
from tests.test_sums import some_weights
from tests.test_tallies import PRIME_SLOT
from whatcounts.errors import InvalidNumber, InvalidOperation, InvalidReader, InvalidSum
from whatcounts.reader.least import answers, first_merge, is_merge, is_turning, least_reader, parting, reader_where
from whatcounts.reader.readers import Reader
from whatcounts.sums.sums import Sum
from whatcounts.tally.tallies import Tally

EVEN = Reader("ab", {"a": (1, 0), "b": (0, 1)}, (0,))
PAIR = Reader("ab", {"a": (1, 0, 3, 2), "b": (0, 2, 1, 3)}, (0, 1))
ENDS = Reader("ab", {"a": (1, 1), "b": (0, 0)}, (1,))
READER_SLOT = Slot(EVEN, wrong_ones(lambda value: isinstance(value, Reader)), InvalidReader)


def alike_from(reader):
    """A function that tells whether two states have the same answers to all texts, by marking those that have not."""
    states = range(len(reader))
    unlike = {(one, other) for one in states for other in states if (one in reader.yes) != (other in reader.yes)}
    more = True
    while more:
        more = {(one, other) for one in states for other in states if (one, other) not in unlike and any(
            (row[one], row[other]) in unlike for row in reader.moves.values())}
        unlike |= more
    return lambda one, other: (one, other) not in unlike


def told_least(reader):
    """The first texts that lead 0 to states with unlike answers, and the function that tells which one it is."""
    alike = alike_from(reader)
    texts = []
    for text in all_texts(reader.letters, {"a": 12, "ab": 7, "abc": 6}[reader.letters]):
        if not any(alike(told(reader, text), told(reader, other)) for other in texts):
            texts.append(text)
    return texts, lambda text: [alike(told(reader, text), told(reader, other)) for other in texts].index(True)


def wide(letters, many, seed):
    """A reader with the answers of a lesser one, to which many states are added to which no text leads, or that answer
    as others do.
    """
    source = random.Random(seed)
    small = some_reader(letters, 3, seed)
    copies = [source.randrange(3) for _ in range(many - 3)]
    kinds = [0, 1, 2] + copies

    def state_of(kind):
        return source.choice([state for state in range(many) if kinds[state] == kind])
    moves = {letter: tuple(state_of(small.moves[letter][kind]) for kind in kinds) for letter in letters}
    return small, Reader(letters, moves, tuple(state for state in range(many) if kinds[state] in small.yes))


def some_turning(letters, many, seed):
    source = random.Random(f"turning {seed}")
    moves = {letter: tuple(source.sample(range(many), many)) for letter in letters}
    return Reader(letters, moves, tuple(state for state in range(many) if source.random() < 0.5))


class LeastReadersTest(Case):
    def check_least(self, reader, least):
        texts, place = told_least(reader)
        self.assertEqual((len(least), least.letters), (len(texts), reader.letters))
        self.assertEqual(least.moves, {x: tuple(place(text + x) for text in texts) for x in reader.letters})
        self.assertEqual(least.yes, tuple(at for at, text in enumerate(texts) if answer(reader, text)))

    def test_least_readers(self):
        for reader in samples():
            self.check_least(reader, least_reader(reader))
            self.assertEqual(least_reader(least_reader(reader)), least_reader(reader))
            self.assertEqual(least_reader(~~reader), least_reader(reader))

    def test_states_that_are_left_out(self):
        for letters, many, seed in itertools.product(("a", "ab", "abc"), (3, 10, 60), range(5)):
            small, reader = wide(letters, many, seed)
            self.assertEqual(least_reader(reader), least_reader(small))
        alone = Reader("ab", {"a": (0, 2, 1), "b": (0, 1, 0)}, (1, 2))
        self.assertEqual(least_reader(alone), Reader("ab", {"a": (0,), "b": (0,)}, ()))
        self.assertEqual(least_reader(Reader("a", {"a": (59,) + tuple(range(59))}, tuple(range(0, 60, 2)))),
                         Reader("a", {"a": (1, 0)}, (0,)))

    def test_numbering(self):
        reader = Reader("ab", {"a": (2, 0, 1), "b": (1, 2, 2)}, (1,))
        self.assertEqual(least_reader(reader), Reader("ab", {"a": (1, 2, 0), "b": (2, 1, 1)}, (2,)))

    def test_sixty_states(self):
        cycle = Reader("a", {"a": tuple(range(1, 60)) + (0,)}, (59,))
        self.assertEqual(least_reader(cycle), cycle)
        line = Reader("ab", {"a": tuple(range(1, 60)) + (59,), "b": tuple(range(60))}, (59,))
        self.assertEqual(least_reader(line), line)


class PartingTest(Case):
    def test_parting(self):
        some = [reader for reader in samples() if reader.letters == "ab"][:12]
        texts = all_texts("ab", 8)
        for one, other in itertools.product(some, some):
            right = [text for text in texts if answer(one, text) != answer(other, text)]
            self.assertEqual(parting(one, other), right[0] if right else None)

    def test_long_partings(self):
        def cycle(many):
            return Reader("a", {"a": tuple(range(1, many)) + (0,)}, (many - 1,))
        self.assertEqual(parting(cycle(60), cycle(59)), "a" * 58)
        self.assertEqual(parting(cycle(60).ahead("a"), cycle(60)), "a" * 58)
        one = Reader("a", {"a": tuple(range(1, 60)) + (59,)}, ())
        other = Reader("a", {"a": tuple(range(1, 60)) + (59,)}, (59,))
        self.assertEqual((parting(one, other), parting(one, one)), ("a" * 59, None))
        late = Reader("a", {"a": tuple(range(1, 60)) + (0,)}, tuple(range(0, 60, 2)))
        self.assertIsNone(parting(late, Reader("a", {"a": (1, 0)}, (0,))))
        # all pairs of states are reached ahead of the one at which the answers are unlike
        yes = Reader("a", {"a": tuple(range(1, 59)) + (0,)}, tuple(range(58)))
        self.assertEqual(parting(Reader("a", {"a": (0,)}, (0,)), yes), "a" * 58)


class MergesTest(Case):
    def told_merge(self, reader):
        texts, place = told_least(reader)
        for letter in reader.letters:
            for one, other in itertools.combinations(range(len(texts)), 2):
                if place(texts[one] + letter) == place(texts[other] + letter):
                    return letter, texts[one], texts[other]
        return None

    def test_first_merges(self):
        turning = [some_turning(letters, many, seed) for letters in ("a", "ab", "abc") for many in (1, 2, 4) for seed in range(4)]
        for reader in [*samples(), *turning]:
            merge = self.told_merge(reader)
            self.assertEqual(first_merge(reader), merge)
            self.assertIs(is_turning(reader), merge is None)
            if merge is not None:
                self.assertIs(is_merge(reader, merge), True)
        self.assertTrue(all(is_turning(reader) for reader in turning))
        self.assertFalse(all(is_turning(reader) for reader in samples()))

    def test_turning_by_the_least_reader_only(self):
        reader = Reader("ab", {"a": (1, 2, 1), "b": (0, 1, 2)}, (0, 2))
        self.assertTrue(is_turning(reader))
        left_out = Reader("ab", {"a": (1, 0, 0), "b": (0, 1, 0)}, (0,))
        self.assertIsNone(first_merge(left_out))

    def test_merges(self):
        for reader in [some_reader("ab", 4, seed) for seed in range(8)] + [ENDS, EVEN]:
            alike = alike_from(reader)
            texts = all_texts("ab", 3)
            for letter, one, other in itertools.product("ab", texts, texts):
                left, right = told(reader, one), told(reader, other)
                right_one = not alike(left, right) and alike(reader.moves[letter][left], reader.moves[letter][right])
                self.assertIs(is_merge(reader, (letter, one, other)), right_one)

    def test_values(self):
        for value in every_kind():
            self.assertIs(is_merge(ENDS, value), False)
            for merge in ((value, "b", "a"), ("a", value, "a"), ("a", "b", value), (value, value, value), [value], (value,)):
                is_text = isinstance(value, str) and len(value) <= 4000 and set(value) <= set("ab")
                right = isinstance(merge, tuple) and len(merge) == 3 and is_text and merge[0] in ("a", "b")
                right = right and merge[1][-1:] in ("", "b") and merge[2][-1:] == "a"
                right = right or (isinstance(merge, tuple) and len(merge) == 3 and is_text and merge[0] in ("a", "b")
                                  and merge[1][-1:] == "a" and merge[2][-1:] in ("", "b"))
                self.assertIs(is_merge(ENDS, merge), bool(right), str(merge)[:200])
        for value in (["a", "", "a"], ("a", "", "a", ""), ("a", ""), ("", "", "a"), ("ab", "", "a"), ("A", "", "a"),
                      ("c", "", "a"), ("a", "", "c"), ("a", "c", "a"), ("a", "", "a" * 4001), ("a", "b" * 4001, "a"), "a"):
            self.assertIs(is_merge(ENDS, value), False)
        self.assertTrue(is_merge(ENDS, ("a", "b" * 4000, "ab" * 1999 + "aa")))
        self.assertTrue(is_merge(ENDS, ("b", "ba" * 2000, "")))
        self.assertFalse(is_merge(EVEN, ("a", "", "a")))


class AnswersTest(Case):
    def test_answers(self):
        for prime in (None, 2, 3, 5, 7):
            for reader in samples():
                tally = answers(reader, prime=prime)
                self.assertIsInstance(tally, Tally)
                self.assertEqual((tally.letters, tally.prime), (reader.letters, prime))
                self.assertLessEqual(len(tally), len(reader))
                for text in all_texts(reader.letters, 4):
                    self.assertEqual(tally.at(text), 1 if answer(reader, text) else 0)
        self.assertIsNone(answers(EVEN).prime)
        self.assertEqual(answers(some_reader("ab", 60, 3)).at("ab" * 2000), int("ab" * 2000 in some_reader("ab", 60, 3)))


class ReaderWhereTest(Case):
    def check_where(self, total, rest):
        reader = reader_where(total, rest)
        for text in all_texts(total.letters, 5 if total.letters != "abc" else 4):
            self.assertIs(text in reader, total.at(text) == rest)
        self.assertEqual(least_reader(reader), reader)
        self.assertTrue(is_turning(reader))

    def test_readers_of_sums(self):
        for prime, letters in itertools.product((2, 3, 5, 7), ("a", "ab", "abc")):
            totals = [Sum(letters, {letters[0]: 3, "": 1}, prime=prime), Sum(letters, {}, prime=prime),
                      Sum(letters, {letters[-1]: 1}, prime=prime), Sum(letters, {"": 5}, prime=prime)]
            if prime == 2:
                totals += [Sum(letters, some_weights(letters, 3, 2, seed), prime=prime) for seed in range(4)]
                totals += [Sum("a", {"aaaa": 1, "aa": 1}, prime=prime), Sum("ab", {"ab": 1, "ba": 1, "a": 1}, prime=prime)]
            for total in totals:
                for rest in range(prime):
                    self.check_where(total, rest)

    def test_numbering(self):
        for prime in (2, 3, 5, 7):
            reader = reader_where(Sum("ab", {"b": 1}, prime=prime), prime - 1)
            self.assertEqual(reader.moves, {"a": tuple(range(prime)), "b": tuple(range(1, prime)) + (0,)})
            self.assertEqual(reader.yes, (prime - 1,))
        self.assertEqual(reader_where(Sum("ab", {}, prime=3), 0), Reader("ab", {"a": (0,), "b": (0,)}, (0,)))
        self.assertEqual(reader_where(Sum("ab", {}, prime=3), 1), Reader("ab", {"a": (0,), "b": (0,)}, ()))

    def sums_ahead(self, total):
        """The number of the different sums ahead of which texts stand, by their numbers at all texts that tell them."""
        size = total.degree or 0
        texts = all_texts(total.letters, size)
        seen, todo = {tuple(total.at(end) for end in texts)}, [""]
        while todo:
            text = todo.pop()
            for letter in total.letters:
                row = tuple(total.at(text + letter + end) for end in texts)
                if row not in seen:
                    seen.add(row)
                    todo.append(text + letter)
        return len(seen)

    def test_limit_of_sums(self):
        for total in (Sum("abc", {"a": 1, "b": 1, "c": 1}, prime=7), Sum("ab", {"ab": 1, "": 1}, prime=3),
                      Sum("ab", {"ab": 1}, prime=5), Sum("abc", {"a": 1, "bc": 1}, prime=2),
                      Sum("abc", {"ab": 1, "ca": 1, "bc": 1}, prime=2), Sum("ab", {"aab": 1, "b": 1}, prime=2)):
            many = self.sums_ahead(total)
            if many <= 60:
                self.check_where(total, 1)
            else:
                for rest in range(total.prime):
                    self.too_many(60, reader_where, total, rest)
        self.assertEqual(self.sums_ahead(Sum("ab", {"ab": 1}, prime=5)), 125 // 5)

    def test_sums_near_the_limit(self):
        for many, prime, weights in ((49, 7, {"ab": 1}), (32, 2, {"abc": 1, "bca": 1}), (27, 3, {"aab": 1, "aba": 1}),
                                     (64, 2, {"abc": 1, "bca": 1, "cb": 1}), (125, 5, {"aab": 1, "aba": 1})):
            total = Sum("abc", weights, prime=prime)
            self.assertEqual(self.sums_ahead(total), many)
            for rest in range(prime):
                if many > 60:
                    self.too_many(60, reader_where, total, rest)
                else:
                    self.check_where(total, rest)
        self.assertEqual(len(reader_where(Sum("ab", {"ab": 1}, prime=7), 3)), 49)

    def test_very_many_weights(self):
        """The sums ahead of which texts stand have more weights than a sum may have."""
        source = random.Random(4)
        patterns = sorted({"".join(source.choice("abc") for _ in range(12)) for _ in range(400)})
        total = Sum("abc", {pattern: 1 for pattern in patterns}, prime=2)
        self.too_many(400, total.ahead, "abcabcabcabc")
        self.too_many(60, reader_where, total, 1)
        self.too_many(60, reader_where, Sum("abc", {pattern: 6 for pattern in patterns}, prime=7), 6)
        # sixteen different sums, some with more than four hundred weights: the number hangs on that of all letters
        every = Sum("ab", {pattern: 1 for pattern in all_texts("ab", 8) if len(pattern) == 8}, prime=2)
        self.too_many(400, every.ahead, "aba")
        for rest in (0, 1):
            reader = reader_where(every, rest)
            self.assertEqual(reader.moves, dict.fromkeys("ab", tuple(range(1, 16)) + (0,)))
            self.assertEqual(reader.yes, tuple(size for size in range(16) if (size >= 8) == (rest == 1)))


class LeastErrorsTest(Case):
    def test_readers(self):
        for call in (least_reader, first_merge, is_turning):
            self.check_slots(call, [READER_SLOT])
        self.check_slots(lambda reader: is_merge(reader, None), [READER_SLOT])
        self.check_slots(parting, [READER_SLOT, READER_SLOT])
        self.check_slots(answers, [READER_SLOT, PRIME_SLOT])
        for other in (Reader("ac", {"a": (0,), "c": (0,)}, ()), Reader("a", {"a": (0,)}, ()),
                      Reader("abc", {"a": (0,), "b": (0,), "c": (0,)}, ())):
            self.raised(InvalidOperation, parting, EVEN, other)
            self.raised(InvalidOperation, parting, other, EVEN)

    def test_rests(self):
        sums = wrong_ones(lambda value: isinstance(value, Sum))
        for prime in (2, 3, 5, 7):
            rests = wrong_ones(lambda value: is_plain_integer(value) and 0 <= value < prime) + [prime, -1]
            self.check_slots(reader_where, [Slot(Sum("ab", {"a": 1}, prime=prime), sums, InvalidSum),
                                            Slot(prime - 1, rests, InvalidNumber)])
        exact = Sum("ab", {"ab": 1})
        for value in wrong_ones(lambda value: is_plain_integer(value) and value >= 0):
            self.bad_number(value, reader_where, exact, value)
        for rest in (0, 1, 7, 10 ** 199):
            self.raised(InvalidOperation, reader_where, exact, rest)
