"""[0.18], [17.1] and stage 17: readers whose answers hang on counts of so many letters."""

import itertools

from tests.helpers import Case, Slot, all_texts, every_kind, is_plain_integer, wrong_ones
from tests.test_falling import PRIME_SLOT
from tests.test_least import READER_SLOT, some_turning
from tests.test_prime import ENDS, EVEN, EVERY, PAIR, TRI, circle, copies, turning_ones
from tests.test_readers import answer, samples, some_reader
from tests.test_sums import count_of
from tests.test_tables import some_word
from tests.test_turns import cycles
from whatcounts.errors import InvalidNumber, InvalidOperation, InvalidReader, InvalidTable, NotTrue
from whatcounts.group.turns import Group
from whatcounts.reader.least import is_turning, least_reader, reader_where
from whatcounts.reader.readers import Reader
from whatcounts.sums.sums import Sum
from whatcounts.table.tables import Table
from whatcounts.table.truth import by_free, first_fault, free_values, how_many_true
from whatcounts.tell import depth as module
from whatcounts.tell.depth import answer_at, depth_by, depth_paper, does_hang, is_depth_paper
from whatcounts.tell.prime import is_by, sum_by
from whatcounts.word.words import Word

PRIMES = (2, 3, 5, 7)
DEPTH_SLOT = Slot(2, wrong_ones(lambda value: is_plain_integer(value) and 0 <= value <= 5) + [6, -1], InvalidNumber)


def counts_of(text, letters, depth, prime):
    return tuple(count_of(pattern, text) % prime for pattern in all_texts(letters, depth)[1:])


def told_hangs(reader, prime, depth, size):
    """Whether all short texts with the same counts have the same answer."""
    answers = {}
    for text in all_texts(reader.letters, size):
        key = counts_of(text, reader.letters, depth, prime)
        if answers.setdefault(key, answer(reader, text)) != answer(reader, text):
            return False
    return True


def small_readers():
    """Turning readers, and others, of few states."""
    for total, rest in ((Sum("ab", {"ab": 1}, prime=2), 1), (Sum("a", {"aaa": 1}, prime=2), 0), (Sum("ab", {"a": 1, "b": 1}, prime=3), 2),
                        (Sum("abc", {"a": 1, "bc": 1}, prime=2), 1), (Sum("ab", {"aa": 1, "b": 1}, prime=2), 1),
                        (Sum("ab", {"a": 2, "b": 1}, prime=5), 4), (Sum("ab", {"ab": 1, "ba": 1}, prime=2), 0)):
        yield reader_where(total, rest)
    yield from (EVEN, PAIR, TRI, EVERY, ENDS, ~EVERY, copies(PAIR, 3))
    for points in (2, 3, 4, 6, 8):
        yield circle(points)


class DepthsTest(Case):
    def test_constant(self):
        self.assertEqual(module.MAX_PAIRS, 20000)

    def test_least_depths(self):
        sizes = {"a": 26, "ab": 8, "abc": 5}
        for reader in small_readers():
            for prime in (2, 3):
                deepest = 3 if reader.letters != "a" else 5
                told = [told_hangs(reader, prime, depth, sizes[reader.letters]) for depth in range(deepest + 1)]
                least = depth_by(reader, prime)
                right = [least is not None and least <= depth for depth in range(deepest + 1)]
                # what short texts tell is enough for these readers but for the greatest depth
                self.assertEqual(right[:deepest], told[:deepest], (str(reader), prime))
                self.assertLessEqual(right, told)
                for depth in range(deepest + 1):
                    self.assertIs(does_hang(reader, prime, depth), right[depth])

    def test_depths_and_sums(self):
        for reader in turning_ones():
            for prime in PRIMES:
                least = depth_by(reader, prime)
                self.assertEqual(least is not None, is_by(reader, prime))
                self.assertEqual(least == 0, len(least_reader(reader)) == 1)
                if least is not None and len(least_reader(reader)) <= 9:
                    self.assertLessEqual(least, sum_by(reader, prime).degree or 0)
                for depth in range(6):
                    self.assertIs(does_hang(reader, prime, depth), least is not None and least <= depth)

    def test_depth_and_degree(self):
        """The depth can be less than the degree."""
        total = Sum("ab", {"ab": 1, "a": 1}, prime=3)
        reader = reader_where(total, 1)
        self.assertEqual((depth_by(reader, 3), sum_by(reader, 3).degree), (2, 4))
        self.assertEqual((depth_by(circle(7), 7), sum_by(circle(7), 7).degree), (1, 6))
        self.assertEqual([depth_by(circle(points), 2) for points in (2, 4, 8, 16, 32)], [1, 2, 4, 8, 16])
        self.assertEqual([depth_by(circle(points), 3) for points in (3, 9, 27)], [1, 3, 9])
        self.assertEqual([does_hang(circle(16), 2, depth) for depth in range(6)], [False] * 6)
        self.assertEqual([does_hang(circle(8), 2, depth) for depth in range(6)], [False] * 4 + [True] * 2)

    def test_readers_that_are_not_turning(self):
        for reader in [*samples(), ENDS, some_reader("abc", 60, 1)]:
            if not is_turning(reader):
                for prime in PRIMES:
                    self.assertIsNone(depth_by(reader, prime))
                    self.assertEqual([does_hang(reader, prime, depth) for depth in range(6)], [False] * 6)


class PapersTest(Case):
    def check_paper(self, reader, prime, depth):
        paper = depth_paper(reader, prime, depth)
        self.assertIs(is_depth_paper(reader, prime, depth, paper), True)
        hangs = does_hang(reader, prime, depth)
        if hangs:
            self.assertEqual(paper, ("hangs",))
        else:
            kind, one, other = paper
            self.assertEqual(kind, "pair")
            self.assertEqual(counts_of(one, reader.letters, depth, prime), counts_of(other, reader.letters, depth, prime))
            self.assertNotEqual(answer(reader, one), answer(reader, other))
            self.assertTrue(is_depth_paper(reader, prime, depth, ("pair", other, one)))
        self.assertIs(is_depth_paper(reader, prime, depth, ("hangs",)), hangs)

    def test_papers(self):
        readers = [*small_readers(), some_reader("ab", 4, 1), some_reader("abc", 3, 2), some_turning("ab", 4, 0), circle(16), circle(60)]
        for reader in readers:
            for prime, depth in itertools.product(PRIMES, range(6)):
                many = (1 if depth == 0 else how_many_true(reader.letters, depth, prime)) * len(least_reader(reader))
                if many > 20000:
                    self.too_many(20000, depth_paper, reader, prime, depth)
                elif many <= 3000:
                    self.check_paper(reader, prime, depth)

    def test_bound(self):
        """49 true tables of depth 1 modulo 7 and 343 of depth 2; 8192 of depth 4 modulo 2; 25 of depth 5 over one letter."""
        self.assertEqual([how_many_true("ab", 2, 7), how_many_true("ab", 4, 2), how_many_true("a", 5, 5)], [343, 8192, 25])
        some = circle(58, letters="ab")
        self.check_paper(some, 7, 2)
        self.too_many(20000, depth_paper, circle(59, letters="ab"), 7, 2)
        # the states of the least reader are counted
        self.check_paper(copies(circle(29, letters="ab"), 2), 7, 2)
        self.check_paper(copies(PAIR & EVEN, 2), 7, 2)
        self.check_paper(EVEN, 2, 4)
        self.check_paper(EVERY, 2, 4)
        self.too_many(20000, depth_paper, circle(3, letters="ab"), 2, 4)
        self.check_paper(circle(60), 5, 5)
        self.too_many(20000, depth_paper, EVERY, 2, 5)
        self.check_paper(EVERY, 7, 0)

    def test_great_groups(self):
        reader = some_turning("ab", 60, 1)
        for prime in PRIMES:
            self.too_many(2000, depth_by, reader, prime)
            for depth in range(6):
                self.too_many(2000, does_hang, reader, prime, depth)
                for value in (None, ("hangs",), ("pair", "", "a")):
                    self.too_many(2000, is_depth_paper, reader, prime, depth, value)
        # the paper itself is found without the group
        paper = depth_paper(reader, 2, 2)
        self.assertEqual(counts_of(paper[1], "ab", 2, 2), counts_of(paper[2], "ab", 2, 2))
        self.assertNotEqual(answer(reader, paper[1]), answer(reader, paper[2]))
        for prime, depth in ((2, 0), (5, 1), (7, 1)):
            kind, one, other = depth_paper(reader, prime, depth)
            self.assertEqual((kind, counts_of(one, "ab", depth, prime)), ("pair", counts_of(other, "ab", depth, prime)))

    def test_unlike_lengths(self):
        for size in (3997, 3999, 4000):
            self.assertIs(is_depth_paper(EVEN, 3, 2, ("pair", "", "a" * 3998)), False)
            for prime, depth in itertools.product(PRIMES, range(4)):
                long = "a" * size
                right = counts_of(long, "ab", depth, prime) == counts_of("", "ab", depth, prime) and size % 2 == 1
                self.assertIs(is_depth_paper(EVEN, prime, depth, ("pair", "", long)), right)
                self.assertIs(is_depth_paper(EVEN, prime, depth, ("pair", long, "")), right)
        self.assertTrue(is_depth_paper(EVEN, 3, 0, ("pair", "ab" * 2000, "a")))
        self.assertTrue(is_depth_paper(EVEN, 5, 4, ("pair", "a" * 3125, "")))
        self.assertFalse(is_depth_paper(EVEN, 5, 4, ("pair", "a" * 3125 + "b" * 876, "")))

    def test_wrong_papers(self):
        for reader, prime, depth in ((EVEN, 3, 1), (PAIR, 2, 1), (PAIR, 2, 2), (ENDS, 2, 0), (EVERY, 2, 0)):
            hangs = does_hang(reader, prime, depth)
            for value in every_kind():
                self.assertIs(is_depth_paper(reader, prime, depth, value), False)
                self.assertIs(is_depth_paper(reader, prime, depth, (value,)), False)
                self.assertIs(is_depth_paper(reader, prime, depth, ("hangs", value)), False)
                self.assertIs(is_depth_paper(reader, prime, depth, (value, "ab", "ba")), False)
                right = isinstance(value, str) and len(value) <= 4000 and set(value) <= set("ab") and answer(reader, value) != answer(reader, "")
                right = right and counts_of(value, "ab", depth, prime) == counts_of("", "ab", depth, prime)
                self.assertIs(is_depth_paper(reader, prime, depth, ("pair", value, "")), right)
                self.assertIs(is_depth_paper(reader, prime, depth, ("pair", "", value)), right)
            for value in (["hangs"], "hangs", ("hang",), ("Hangs",), ("hangs", ()), ("pair",), ("pair", "ab"), ["pair", "ab", "ba"],
                          ("pair", ("ab", "ba")), ("pair", "ab", "ba", ""), ("pair", "ab", "bA")):
                self.assertIs(is_depth_paper(reader, prime, depth, value), False)
            self.assertIs(is_depth_paper(reader, prime, depth, ("hangs",)), hangs)
        self.assertTrue(is_depth_paper(PAIR, 2, 1, ("pair", "ab", "ba")))


class AnswersTest(Case):
    def test_answers_at_tables_of_words(self):
        """All true tables of these depths are those of texts, by which the answers are told."""
        for total, rest, depth in ((Sum("ab", {"ab": 1}, prime=2), 1, 2), (Sum("ab", {"ab": 1, "b": 1}, prime=3), 2, 2),
                                   (Sum("a", {"aa": 1}, prime=2), 1, 3), (Sum("abc", {"a": 1, "b": 1}, prime=2), 0, 1),
                                   (Sum("ab", {"a": 1, "b": 3}, prime=7), 0, 1)):
            reader = reader_where(total, rest)
            self.assertTrue(does_hang(reader, total.prime, depth))
            seen = {}
            for text in all_texts(total.letters, 14 if total.letters == "a" else 6):
                table = Table.of(Word.of(total.letters, text), depth, prime=total.prime)
                seen[table.entries] = answer(reader, text)
                self.assertIs(answer_at(reader, table), answer(reader, text))
            for seed in range(12):
                word = some_word(total.letters, 5, seed, 10 ** 30)
                self.assertIs(answer_at(reader, Table.of(word, depth, prime=total.prime)), total.at_word(word) == rest)
                self.assertIs(answer_at(copies(reader, 3), Table.of(~word, depth, prime=total.prime)), total.at_word(~word) == rest)

    def test_all_true_tables(self):
        reader = reader_where(Sum("ab", {"aab": 1, "b": 1}, prime=2), 1)
        for depth in (3, 4):
            free = free_values(Table.unit("ab", depth, prime=2))
            for seed in range(40):
                table = by_free("ab", depth, tuple((seed * 37 + 11 * at) // 3 % 2 for at in range(len(free))), prime=2)
                self.assertIs(answer_at(reader, table), (table["aab"] + table["b"]) % 2 == 1)
        for depth in (2, 3, 5):
            free = len(free_values(Table.unit("ab", depth, prime=2)))
            table = by_free("ab", depth, (1,) * free, prime=2)
            self.assertIs(answer_at(PAIR, table), table["ab"] == 0)
        # a depth on which they hang though it is more than is needed, with three letters
        some = reader_where(Sum("abc", {"a": 1, "bc": 1}, prime=2), 1)
        for seed in range(3):
            word = some_word("abc", 6, seed)
            table = Table.of(word, 5, prime=2)
            self.assertIs(answer_at(some, table), (table["a"] + table["bc"]) % 2 == 1)

    def test_answers_that_are_alike(self):
        for prime, depth in itertools.product(PRIMES, (1, 2, 3)):
            self.assertIs(answer_at(EVERY, Table.of(Word.of("ab", "aBA"), depth, prime=prime)), True)
            self.assertIs(answer_at(~EVERY, Table.of(Word.of("ab", "aBA"), depth, prime=prime)), False)

    def test_true_tables_alone(self):
        for prime, depth in itertools.product((None, 2, 3), (2, 3)):
            table = Table.of(Word.of("ab", "abAB"), depth, prime=prime).with_entry("ba", 0)
            error = self.raised(NotTrue, answer_at, PAIR, table)
            self.assertEqual((error.one, error.other), first_fault(table))
            # unlike letters come ahead of it, all else behind
            self.raised(InvalidOperation, answer_at, circle(4), table)
            self.raised(NotTrue, answer_at, ENDS, table)
            self.raised(NotTrue, answer_at, some_turning("ab", 60, 1), table)

    def test_operations(self):
        self.raised(InvalidOperation, answer_at, PAIR, Table.unit("ab", 2))
        self.raised(InvalidOperation, answer_at, PAIR, Table.unit("ab", 1, prime=2))
        self.raised(InvalidOperation, answer_at, PAIR, Table.unit("ab", 2, prime=3))
        self.raised(InvalidOperation, answer_at, ENDS, Table.unit("ab", 5, prime=2))
        self.raised(InvalidOperation, answer_at, circle(16), Table.unit("a", 5, prime=2))
        for letters in ("a", "ac", "abc"):
            self.raised(InvalidOperation, answer_at, PAIR, Table.unit(letters, 2, prime=2))
        more = some_turning("ab", 60, 1)
        self.too_many(2000, answer_at, more, Table.unit("ab", 2, prime=2))
        self.raised(InvalidOperation, answer_at, more, Table.unit("ab", 2))
        self.raised(InvalidOperation, answer_at, more, Table.unit("abc", 2, prime=2))
        self.assertTrue(answer_at(circle(8), Table.unit("a", 5, prime=2)))


class DepthErrorsTest(Case):
    def test_slots(self):
        reader = Slot(EVEN, READER_SLOT.wrong, InvalidReader)
        # a reader that is not turning has no depth, whatever the prime, but the prime is checked
        for right in (reader, Slot(ENDS, READER_SLOT.wrong, InvalidReader)):
            self.check_slots(depth_by, [right, PRIME_SLOT])
            for call in (does_hang, depth_paper):
                self.check_slots(call, [right, PRIME_SLOT, DEPTH_SLOT])
        for value in (None, ("hangs",), ("pair", "", "a")):
            self.check_slots(lambda *parts: is_depth_paper(*parts, value), [reader, PRIME_SLOT, DEPTH_SLOT])
        table = Slot(Table.unit("ab", 2, prime=2), wrong_ones(lambda value: isinstance(value, Table)), InvalidTable)
        self.check_slots(answer_at, [reader, table])

    def test_then(self):
        more = some_turning("ab", 60, 1)
        for call in (does_hang, depth_paper):
            self.bad_number(6, call, more, 2, 6)
            self.bad_number(11, call, more, 11, 6)
        self.bad_number(4, depth_by, more, 4)
        self.bad_number(True, is_depth_paper, more, 2, True, ("hangs",))
        two = Reader("ab", {"a": cycles(2, (0, 1)), "b": (0, 1)}, (1,))
        self.assertEqual((len(Group.of(two).all_turns()), depth_by(two, 2)), (2, 1))
