"""[12.1], [12.2] and stage 12: true tables."""

import functools
import itertools
import random

from tests.helpers import MOST, Case, Slot, all_texts, every_kind, is_plain_integer, is_some_text, wrong_ones
from tests.test_tables import DEPTH_SLOT, LETTERS_SLOT, PRIMES, kinds, rest, some_table, some_word, told_product
from tests.test_tallies import PRIME_SLOT, WRONG_PRIMES
from whatcounts.errors import InvalidNumber, InvalidOperation, InvalidPattern, InvalidTable, NotTrue
from whatcounts.pattern.leading import bracket_of, factors, free_patterns
from whatcounts.table.tables import Table
from whatcounts.table.truth import by_exponents, by_free, does_follow, exponents, first_fault, free_values, how_many_true
from whatcounts.table.truth import is_fault, is_paper, is_true, paper, word_of
from whatcounts.word.words import Word

TABLE_SLOT = Slot(Table.unit("ab", 2), wrong_ones(lambda value: isinstance(value, Table)), InvalidTable)
PATTERN_SLOT = Slot("a", wrong_ones(is_some_text("ab", 400)) + ["abc", "ab" * 200 + "a"], InvalidPattern)
ODD = Table("ab", 2, (1, 1, 0, 0, 0, 0))


@functools.cache
def told_overlays(one, other):
    """All overlays, each as often as it is one, by the places of the one and those of the other."""
    found = []
    for size in range(max(len(one), len(other)), len(one) + len(other) + 1):
        for left in itertools.combinations(range(size), len(one)):
            must = set(range(size)) - set(left)
            for more in itertools.combinations(left, len(other) - len(must)):
                signs = dict(zip(left, one))
                right = dict(zip(sorted(must | set(more)), other))
                if all(signs.get(at, sign) == sign for at, sign in right.items()):
                    found.append("".join({**signs, **right}[at] for at in range(size)))
    return found


def told_follows(table, one, other):
    entries = dict(zip(all_texts(table.letters, table.depth), (1,) + table.entries))
    difference = entries[one] * entries[other] - sum(entries[pattern] for pattern in told_overlays(one, other))
    return rest(difference, table.prime) == 0


@functools.cache
def pairs_in_order(letters, depth):
    patterns = all_texts(letters, depth)[1:]
    place = {pattern: at for at, pattern in enumerate(patterns)}
    pairs = [(one, other) for one in patterns for other in patterns
             if place[one] <= place[other] and len(one) + len(other) <= depth]
    return sorted(pairs, key=lambda pair: (len(pair[0]) + len(pair[1]), place[pair[0]], place[pair[1]]))


def told_fault(table):
    for pair in pairs_in_order(table.letters, table.depth):
        if not told_follows(table, *pair):
            return pair
    return None


def true_tables(letters, depth, prime):
    yield Table.unit(letters, depth, prime=prime)
    for seed, runs, most in ((1, 2, 3), (2, 4, 3), (3, 3, 10 ** 30)):
        yield Table.of(some_word(letters, runs, seed, most), depth, prime=prime)


def near(table, seed):
    """The table with one entry changed."""
    source = random.Random(seed)
    pattern = source.choice(all_texts(table.letters, table.depth)[1:])
    return table.with_entry(pattern, table[pattern] + source.choice([1, -1, 4 if table.prime != 2 else 3]))


def shallow_kinds():
    return [(letters, depth, prime) for letters, depth, prime in kinds() if letters != "abc" or depth <= 2 or prime in (None, 2)]


class RulesTest(Case):
    def test_faults(self):
        for letters, depth, prime in kinds():
            for table in true_tables(letters, depth, prime):
                self.assertIs(is_true(table), True)
                self.assertIsNone(first_fault(table))
                for seed in range(3):
                    some = near(table, seed)
                    fault = told_fault(some)
                    self.assertEqual(first_fault(some), fault)
                    self.assertIs(is_true(some), fault is None)
            some = some_table(letters, depth, 1, prime)
            self.assertEqual(first_fault(some), told_fault(some))

    def test_greatest_tables(self):
        for prime in (None, 2, 7):
            table = Table.of(some_word("abc", 5, 1), 5, prime=prime)
            self.assertIsNone(first_fault(table))
            for pattern in ("abcab", "cccc", "b"):
                some = table.with_entry(pattern, table[pattern] + 1)
                self.assertEqual(first_fault(some), told_fault(some))

    def test_a_last_fault(self):
        """A table of which just one pair is a fault, and the last one."""
        table = Table.unit("ab", 4, prime=3).with_entry("bbbb", 1)
        self.assertEqual((first_fault(table), told_fault(table)), (("b", "bbb"), ("b", "bbb")))
        table = Table.unit("a", 4, prime=2).with_entry("aaaa", 1)
        self.assertTrue(is_true(table))
        table = Table.unit("a", 4).with_entry("aaaa", 2)
        self.assertEqual(first_fault(table), ("a", "aaa"))

    def test_does_follow(self):
        for letters, depth, prime in shallow_kinds():
            for table in (some_table(letters, depth, 2, prime), near(next(true_tables(letters, depth, prime)), 5)):
                patterns = all_texts(letters, depth)
                for one, other in itertools.product(patterns, patterns):
                    if len(one) + len(other) <= depth:
                        right = told_follows(table, one, other)
                        self.assertIs(does_follow(table, one, other), right)
                        fault = not right and one != "" and other != ""
                        self.assertIs(is_fault(table, (one, other)), fault)

    def test_is_fault(self):
        for value in every_kind():
            self.assertIs(is_fault(ODD, value), False)
            right = isinstance(value, str) and value == "b"
            for pair, is_right in ((("a", value), right), ((value, "a"), right), (("b", value), value == "a")):
                self.assertIs(is_fault(ODD, pair), bool(is_right))
            for other in ([value], (value,), ["a", "b", value], ("a", "b", value), {"a": "b"}):
                self.assertIs(is_fault(ODD, other), False)
        self.assertTrue(is_fault(ODD, ("a", "b")) and is_fault(ODD, ("b", "a")))
        for value in (["a", "b"], ("a", "bb"), ("ab", "a"), ("a", ""), ("", "b"), ("a", "c"), ("a", "b" * 401), ("A", "b"), "ab"):
            self.assertIs(is_fault(ODD, value), False)
        self.assertEqual([is_fault(Table.unit("ab", 1).with_entry("a", 5), ("a", "a"))], [False])


class FreeTest(Case):
    def test_free_values(self):
        for letters, depth, prime in kinds():
            table = some_table(letters, depth, 3, prime)
            self.assertEqual(free_values(table), tuple(table[f] for f in free_patterns(letters, depth, prime=prime)))

    def test_by_free(self):
        for letters, depth, prime in kinds():
            for table in true_tables(letters, depth, prime):
                self.assertEqual(by_free(letters, depth, free_values(table), prime=prime), table)
            source = random.Random(f"{letters}{depth}{prime}")
            many = len(free_patterns(letters, depth, prime=prime))
            for numbers in ([source.randint(-9, 9) for _ in range(many)], [MOST] * many, [-MOST] * many, [0] * many):
                table = by_free(letters, depth, tuple(numbers), prime=prime)
                self.assertEqual(free_values(table), tuple(rest(number, prime) for number in numbers))
                self.assertEqual((table.letters, table.depth, table.prime), (letters, depth, prime))
                self.assertIsNone(told_fault(table))

    def test_no_other_table_is_true(self):
        for letters, depth, prime in (("a", 5, 2), ("a", 5, 3), ("a", 3, 5), ("a", 3, 7), ("ab", 2, 2), ("ab", 2, 3),
                                      ("abc", 1, 5), ("ab", 1, 7)):
            many = len(all_texts(letters, depth)) - 1
            found = []
            for entries in itertools.product(range(prime), repeat=many):
                table = Table(letters, depth, entries, prime=prime)
                if told_fault(table) is None:
                    found.append(free_values(table))
                    self.assertEqual(by_free(letters, depth, free_values(table), prime=prime), table)
            self.assertEqual(len(set(found)), len(found))
            self.assertEqual(len(found), how_many_true(letters, depth, prime))

    def test_how_many_true(self):
        self.assertEqual([how_many_true("ab", 2, prime) for prime in (2, 3, 5, 7)], [2 ** 5, 3 ** 3, 5 ** 3, 7 ** 3])
        self.assertEqual([how_many_true("ab", 3, 2), how_many_true("a", 5, 2), how_many_true("abc", 1, 7)], [128, 8, 343])
        # leading patterns of 1 to 5 of three letters, their squares of 2 and 4 letters, their fourth powers of 4
        self.assertEqual(how_many_true("abc", 5, 2), 2 ** (3 + 3 + 8 + 18 + 48 + 3 + 3 + 3))
        self.assertEqual(how_many_true("abc", 5, 5), 5 ** (3 + 3 + 8 + 18 + 48 + 3))


def told_by_exponents(letters, depth, numbers, prime):
    """The product of [12.2], by tables of brackets multiplied one by one."""
    product = Table.unit(letters, depth, prime=prime)
    for pattern, number in zip(free_patterns(letters, depth, prime=prime), numbers):
        leading = factors(letters, pattern)[0]
        word = bracket_of(letters, leading)
        number = rest(number, prime) * (len(pattern) // len(leading))
        once = Table.of(word if number > 0 else ~word, depth, prime=prime)
        for _ in range(abs(number)):
            product = told_product(product, once)
    return product


class ExponentsTest(Case):
    def test_there_and_back(self):
        for letters, depth, prime in kinds():
            patterns = free_patterns(letters, depth, prime=prime)
            for seed in range(2):
                source = random.Random(seed)
                numbers = tuple(source.choice([-2, 0, 0, 1, 3]) for _ in patterns)
                table = by_exponents(letters, depth, numbers, prime=prime)
                rests = tuple(rest(number, prime) for number in numbers)
                self.assertEqual(exponents(table), rests)
                self.assertEqual((table.letters, table.depth, table.prime), (letters, depth, prime))
                if depth <= 3 or letters == "a":
                    self.assertEqual(table, told_by_exponents(letters, depth, numbers, prime))
                self.assertIsNone(told_fault(table))
            for table in true_tables(letters, depth, prime):
                self.assertEqual(by_exponents(letters, depth, exponents(table), prime=prime), table)

    def test_great_exponents(self):
        for letters, depth, prime in shallow_kinds():
            patterns = free_patterns(letters, depth, prime=prime)
            numbers = tuple((-1) ** at * (MOST - at) for at in range(len(patterns)))
            table = by_exponents(letters, depth, numbers, prime=prime)
            self.assertEqual(exponents(table), tuple(rest(number, prime) for number in numbers))
            if depth <= 2:
                product = Table.unit(letters, depth, prime=prime)
                for pattern, number in zip(patterns, numbers):
                    leading = factors(letters, pattern)[0]
                    once = Table.of(bracket_of(letters, leading), depth, prime=prime)
                    for _ in range(len(pattern) // len(leading)):
                        product = product * once.power(rest(number, prime))
                self.assertEqual(table, product)

    def test_just_these(self):
        """Each true table modulo a prime has other exponents."""
        for letters, depth, prime in (("a", 5, 2), ("a", 4, 3), ("ab", 2, 2), ("ab", 2, 3), ("ab", 3, 2), ("abc", 1, 3)):
            many = len(free_patterns(letters, depth, prime=prime))
            rows = list(itertools.product(range(prime), repeat=many))
            tables = {by_exponents(letters, depth, numbers, prime=prime).entries for numbers in rows}
            self.assertEqual(len(tables), how_many_true(letters, depth, prime))
        self.assertEqual(exponents(Table.of(Word.of("ab", "ba"), 3)), (1, 1, -1, 1, -1))

    def test_not_true(self):
        for letters, depth, prime in shallow_kinds():
            for seed in range(3):
                table = near(Table.of(some_word(letters, 3, seed), depth, prime=prime), seed)
                fault = told_fault(table)
                if fault is not None:
                    for call in (exponents, word_of):
                        error = self.raised(NotTrue, call, table)
                        self.assertEqual((error.one, error.other), fault)


class PapersTest(Case):
    def test_papers(self):
        for letters, depth, prime in shallow_kinds():
            for table in true_tables(letters, depth, prime):
                self.assertEqual(paper(table), ("word", exponents(table)))
                if max(map(abs, exponents(table)), default=0) < 10 ** 200:
                    self.assertIs(is_paper(table, paper(table)), True)
                self.assertIs(is_paper(table, ("fault", letters[0], letters[0])), False)
                for seed in range(2):
                    some = near(table, seed)
                    fault = told_fault(some)
                    told = paper(some)
                    self.assertEqual(told[0], "word" if fault is None else "fault")
                    self.assertIs(is_paper(some, told), fault is None or not told_follows(some, *told[1:]))
                    if fault is not None:
                        numbers = (0,) * len(free_patterns(letters, depth, prime=prime))
                        self.assertIs(is_paper(some, ("word", numbers)), False)
                        self.assertIs(is_paper(some, ("word", told_exponents(some))), False)

    def test_any_fault(self):
        table = some_table("ab", 4, 4)
        patterns = all_texts("ab", 4)
        for one, other in itertools.product(patterns, patterns):
            right = one != "" and other != "" and len(one) + len(other) <= 4 and not told_follows(table, one, other)
            self.assertIs(is_paper(table, ("fault", one, other)), right)

    def test_judged_values(self):
        table = Table.of(Word.of("ab", "abAB"), 2)
        self.assertIs(is_paper(table, ("word", (0, 0, 1))), True)
        wrong = [("word", [0, 0, 1]), ["word", (0, 0, 1)], ("word", (0, 0, True)), ("word", (False, 0, 1)), ("word", (0, 0)),
                 ("word", (0, 0, 1, 0)), ("word", 0, 0, 1), ("word",), ("fault", (0, 0, 1)), ("Word", (0, 0, 1)), (), ("word", None),
                 ("word", (0, 0, "1")), ("word", (0, 0, 1), ()), ("fault", "a", "b"), ("fault",), "word", ("word", (0, 0, 2)),
                 (("word",), (0, 0, 1)), {"word": (0, 0, 1)}, ("word", ((0, 0, 1),)), ("word", (0, None, 1)), (None, (0, 0, 1))]
        for value in [*wrong, *every_kind(), *[("word", value) for value in every_kind()], *[(value, (0, 0, 1)) for value in every_kind()]]:
            self.assertIs(is_paper(table, value), False, str(value)[:80])
        self.assertIs(is_paper(Table.unit("ab", 1), ("word", (0, 0))), True)
        self.assertIs(is_paper(Table.unit("ab", 1), ("word", (False, 0))), False)

    def test_faults_of_every_kind(self):
        for value in every_kind():
            right = isinstance(value, str) and value == "b"
            self.assertIs(is_paper(ODD, ("fault", "a", value)), right)
            self.assertIs(is_paper(ODD, ("fault", value, "a")), right)
            self.assertIs(is_paper(ODD, (value, "a", "b")), False)
        for value in (["fault", "a", "b"], ("fault", ("a", "b")), ("fault", "a", "b", "a"), ("fault", "a"), ("a", "b"),
                      ("word", "a", "b"), ("fault", "b", "b"), ("fault", "", "a"), ("fault", "ab", "a")):
            self.assertIs(is_paper(ODD, value), False)
        self.assertTrue(is_paper(ODD, ("fault", "a", "b")) and is_paper(ODD, ("fault", "b", "a")))
        self.assertEqual(paper(ODD), ("fault", "a", "b"))

    def test_long_integers(self):
        for number in (MOST, -MOST):
            table = by_exponents("ab", 2, (number, 1, -number))
            self.assertIs(is_paper(table, ("word", (number, 1, -number))), True)
            self.assertIs(is_paper(table, ("word", (number, 1, number))), False)
        long = Table.of(Word("ab", (("a", MOST),)), 2) * Table.of(Word("ab", (("a", 1), ("b", 1))), 2)
        self.assertEqual(paper(long), ("word", (MOST + 1, 1, 0)))
        self.assertIs(is_paper(long, ("word", (MOST + 1, 1, 0))), False)
        self.assertIs(is_paper(long.modulo(3), ("word", ((MOST + 1) % 3, 1, 0))), True)

    def test_rests(self):
        table = Table.of(Word.of("ab", "ba"), 2, prime=3)
        self.assertEqual(paper(table), ("word", (1, 1, 2)))
        for numbers, right in (((1, 1, 2), True), ((1, 1, -1), False), ((4, 1, 2), False), ((1, 1, 5), False), ((True, 1, 2), False)):
            self.assertIs(is_paper(table, ("word", numbers)), right)


def told_exponents(table):
    """What would be the exponents if the table were true."""
    return exponents(by_free(table.letters, table.depth, free_values(table), prime=table.prime))


class WordsTest(Case):
    def test_words(self):
        for letters, depth, prime in shallow_kinds():
            patterns = free_patterns(letters, depth, prime=prime)
            for seed in range(3):
                source = random.Random(seed)
                numbers = [0] * len(patterns)
                for at in source.sample(range(len(patterns)), min(3, len(patterns))):
                    numbers[at] = source.choice([-2, -1, 1, 2])
                table = by_exponents(letters, depth, tuple(numbers), prime=prime)
                word = word_of(table)
                self.assertEqual(word.letters, letters)
                self.assertEqual(Table.of(word, depth, prime=prime), table)
            self.assertEqual(word_of(Table.unit(letters, depth, prime=prime)), Word(letters, ()))

    def test_great_exponents(self):
        for prime in PRIMES:
            for number in (10 ** 30, -MOST):
                word = Word("abc", (("a", number), ("b", -3), ("c", number)))
                table = Table.of(word, 5, prime=prime)
                self.assertEqual(Table.of(word_of(table), 5, prime=prime), table)
        self.assertEqual(len(word_of(Table.of(Word("abc", (("a", MOST), ("b", MOST), ("c", -MOST))), 3))), 3)
        # a longer exponent than may be passed
        long = Table.of(Word("ab", (("a", MOST),)), 2).power(3)
        self.assertEqual(word_of(long).runs, (("a", 3 * MOST),))

    def test_two_hundred_runs(self):
        for number in (50, -50):
            word = word_of(by_exponents("ab", 2, (0, 0, number)))
            self.assertEqual(len(word), 200)
            self.assertEqual(Table.of(word, 2), by_exponents("ab", 2, (0, 0, number)))
        for number in (51, -51, 400, 401, 1000, -1001, 10 ** 30, -MOST):
            self.too_many(200, word_of, by_exponents("ab", 2, (0, 0, number)))
            self.too_many(200, word_of, by_exponents("ab", 2, (7, 0, number)))
            self.too_many(200, word_of, by_exponents("abc", 3, (0,) * 13 + (number,)))
        # letters ahead of a bracket can take a run away
        self.assertEqual(len(word_of(by_exponents("ab", 2, (0, -1, -50)))), 199)
        self.too_many(200, word_of, by_exponents("ab", 2, (0, 1, 50)))
        self.assertEqual(word_of(by_exponents("ab", 2, (-1, 0, 50))).runs[0], ("b", 1))
        self.assertEqual(len(word_of(by_exponents("ab", 2, (-1, 0, 50)))), 199)
        self.too_many(200, word_of, Table.of(Word.of("ab", "ba"), 2).power(60))
        self.too_many(200, word_of, Table.of(some_word("abc", 12, 1), 5))


class TruthErrorsTest(Case):
    def test_tables(self):
        for call in (is_true, first_fault, free_values, exponents, paper, word_of):
            self.check_slots(call, [TABLE_SLOT])
        self.check_slots(lambda table: is_fault(table, 0), [TABLE_SLOT])
        self.check_slots(lambda table: is_paper(table, 0), [TABLE_SLOT])

    def test_patterns(self):
        self.check_slots(does_follow, [TABLE_SLOT, PATTERN_SLOT, PATTERN_SLOT])
        for one, other in (("a", "ab"), ("ab", "a"), ("", "aba"), ("aba", ""), ("a" * 400, "b" * 400)):
            self.raised(InvalidOperation, does_follow, ODD, one, other)
        self.assertIs(does_follow(ODD, "", "ab"), True)
        self.assertIs(does_follow(Table.unit("ab", 1), "", "b"), True)
        self.raised(InvalidOperation, does_follow, Table.unit("ab", 1), "a", "b")

    def test_numbers(self):
        wrong = wrong_ones(lambda value: isinstance(value, tuple) and all(is_plain_integer(number) for number in value))
        wrong += [(0, 0, True), (0, 0, None), (0, 0, "1"), (0, 0, MOST + 1), [0, 0, 0], (0, 0, (0,))]
        for call in (by_free, by_exponents):
            self.check_slots(call, [LETTERS_SLOT, DEPTH_SLOT, Slot((0, 1, 2), wrong, InvalidOperation), PRIME_SLOT])
            for letters, depth, prime in kinds():
                many = len(free_patterns(letters, depth, prime=prime))
                for other in {many + 1, many - 1, 0, len(all_texts(letters, depth)) - 1} - {many}:
                    self.raised(InvalidOperation, call, letters, depth, (0,) * other, prime=prime)
            # the prime is checked ahead of the number of numbers
            self.bad_number(4, call, "ab", 2, (0,), prime=4)
        self.check_slots(how_many_true, [LETTERS_SLOT, DEPTH_SLOT, Slot(2, WRONG_PRIMES, InvalidNumber)])
