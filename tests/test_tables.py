"""[0.15] and stage 11: tables."""

import itertools
import random

from tests.helpers import MOST, Case, Slot, all_texts, is_plain_integer, is_some_letters, is_some_text, wrong_ones
from tests.test_tallies import PRIME_SLOT, WRONG_PRIMES
from whatcounts.count.counts import count
from whatcounts.errors import InvalidLetters, InvalidNumber, InvalidOperation, InvalidPattern, InvalidSum, InvalidWord
from whatcounts.sums.sums import Sum
from whatcounts.table.tables import Table
from whatcounts.word.words import Word

PRIMES = (None, 2, 3, 5, 7)
LETTERS_SLOT = Slot("ab", wrong_ones(is_some_letters), InvalidLetters)
DEPTH_SLOT = Slot(2, wrong_ones(lambda value: is_plain_integer(value) and 1 <= value <= 5) + [6], InvalidNumber)
WORD_SLOT = Slot(Word("ab", ()), wrong_ones(lambda value: isinstance(value, Word)), InvalidWord)


def patterns(letters, depth):
    return all_texts(letters, depth)[1:]


def rest(number, prime):
    return number if prime is None else number % prime


def some_entries(letters, depth, seed):
    source = random.Random(f"{letters} {depth} {seed}")
    return tuple(source.choice([-4, -1, 0, 1, 2, 9]) for _ in patterns(letters, depth))


def some_table(letters, depth, seed, prime=None):
    return Table(letters, depth, some_entries(letters, depth, seed), prime=prime)


def some_word(letters, runs, seed, most=5):
    source = random.Random(f"{letters} {runs} {seed} word")
    return Word(letters, tuple((source.choice(letters), source.choice([-1, 1]) * source.randint(1, most)) for _ in range(runs)))


def kinds():
    for prime, letters in itertools.product(PRIMES, ("a", "ab", "abc")):
        for depth in (1, 2, 3, 4, 5) if letters != "abc" else (1, 2, 3):
            yield letters, depth, prime


def told_product(one, other):
    entries = []
    for pattern in patterns(one.letters, one.depth):
        entries.append(sum(one[pattern[:at]] * other[pattern[at:]] for at in range(len(pattern) + 1)))
    return Table(one.letters, one.depth, tuple(entries), prime=one.prime)


class TableTest(Case):
    def test_tables_of_words(self):
        for letters, depth, prime in kinds():
            for word in (some_word(letters, 4, depth), some_word(letters, 3, 2, 10 ** 30), Word(letters, ())):
                table = Table.of(word, depth, prime=prime)
                self.assertEqual(table.entries, tuple(rest(count(word, pattern), prime) for pattern in patterns(letters, depth)))
                self.assertEqual((table.letters, table.depth, table.prime), (letters, depth, prime))

    def test_properties(self):
        table = Table("ab", 2, (1, -1, 9, 0, 0, 8))
        self.assertEqual((table.letters, table.depth, table.entries, table.prime), ("ab", 2, (1, -1, 9, 0, 0, 8), None))
        self.assertEqual((len(table), str(table)), (6, "table of depth 2 over ab"))
        rests = Table("ab", 2, (1, -1, 9, 0, 0, 8), prime=7)
        self.assertEqual((rests.entries, rests.prime, str(rests)), ((1, 6, 2, 0, 0, 1), 7, "table of depth 2 over ab, modulo 7"))
        self.assertEqual([table[pattern] for pattern in all_texts("ab", 2)], [1, 1, -1, 9, 0, 0, 8])
        self.assertEqual([rests[pattern] for pattern in all_texts("ab", 2)], [1, 1, 6, 2, 0, 0, 1])
        self.assertEqual(len(Table("abc", 5, (0,) * 363)), 363)
        self.check_not_iterable(table)

    def test_unit(self):
        for letters, depth, prime in kinds():
            unit = Table.unit(letters, depth, prime=prime)
            self.assertEqual(unit.entries, (0,) * len(patterns(letters, depth)))
            self.assertEqual(unit, Table.of(Word(letters, ()), depth, prime=prime))
            self.assertEqual(unit[""], 1)

    def test_equality(self):
        others = [Table("ab", 2, (1, 1, 0, 0, 0, 0)), Table("ab", 2, (1, 0, 0, 0, 0, 0), prime=2), Table("ab", 1, (1, 0)),
                  Table("ac", 2, (1, 0, 0, 0, 0, 0)), Table("ab", 2, (1, 0, 0, 0, 0, 0), prime=3), (1, 0, 0, 0, 0, 0)]
        self.check_equality(lambda: Table("ab", 2, (1, 0, 0, 0, 0, 0)), others)
        self.assertTrue(Table("a", 1, (5,), prime=3) == Table("a", 1, (-1,), prime=3))

    def test_it_never_changes(self):
        table = some_table("ab", 2, 1)
        for name, value in (("letters", "a"), ("depth", 1), ("entries", ()), ("prime", 2)):
            with self.assertRaises(AttributeError):
                setattr(table, name, value)
        entries = table.entries
        table.with_entry("a", 100)
        table.cut(1)
        table.modulo(2)
        table.power(3)
        self.assertEqual(table.entries, entries)


class TableOperationsTest(Case):
    def test_products(self):
        for letters, depth, prime in kinds():
            one, other = some_table(letters, depth, 1, prime), some_table(letters, depth, 2, prime)
            self.assertEqual(one * other, told_product(one, other))
            left, right = some_word(letters, 3, 5), some_word(letters, 4, 6)
            tables = Table.of(left, depth, prime=prime), Table.of(right, depth, prime=prime)
            self.assertEqual(tables[0] * tables[1], Table.of(left * right, depth, prime=prime))
            self.assertEqual(one * Table.unit(letters, depth, prime=prime), one)
            self.assertEqual(Table.unit(letters, depth, prime=prime) * one, one)

    def test_undone(self):
        for letters, depth, prime in kinds():
            table = some_table(letters, depth, 3, prime)
            unit = Table.unit(letters, depth, prime=prime)
            self.assertEqual(told_product(~table, table), unit)
            self.assertEqual(told_product(table, ~table), unit)
            word = some_word(letters, 4, 8)
            self.assertEqual(~Table.of(word, depth, prime=prime), Table.of(~word, depth, prime=prime))
            self.assertEqual((~table).prime, prime)

    def test_powers(self):
        for letters, depth, prime in kinds():
            table = some_table(letters, depth, 4, prime)
            power = Table.unit(letters, depth, prime=prime)
            for number in range(10):
                self.assertEqual(table.power(number), power)
                self.assertEqual(table.power(-number) * power, Table.unit(letters, depth, prime=prime))
                power = told_product(power, table)
            word = some_word(letters, 3, 9)
            for number in (-7, -1, 0, 2, 11):
                self.assertEqual(Table.of(word, depth, prime=prime).power(number), Table.of(word.power(number), depth, prime=prime))

    def test_great_powers(self):
        for letters, depth, prime in kinds():
            letter = Word(letters, ((letters[-1], 1),))
            table = some_table(letters, depth, 5, prime)
            for number in (MOST, -MOST, 10 ** 199, -(10 ** 60) - 1):
                self.assertEqual(Table.of(letter, depth, prime=prime).power(number),
                                 Table.of(Word(letters, ((letters[-1], number),)), depth, prime=prime))
                half, odd = number // 2, number % 2
                power = table.power(half)
                self.assertEqual(table.power(number), power * power * table.power(odd))
        long = Table("a", 5, (MOST,) * 5).power(MOST)
        self.assertGreater(long["aaaaa"], 10 ** 1990)
        self.assertEqual(long.power(-1) * long, Table.unit("a", 5))

    def test_orders(self):
        for letters, depth, prime in kinds():
            if prime is not None:
                unit = Table.unit(letters, depth, prime=prime)
                for table in (some_table(letters, depth, 6, prime), Table.of(some_word(letters, 2, 3), depth, prime=prime), unit,
                              unit.with_entry(letters[0] * depth, 1), Table.of(Word(letters, ((letters[0], 1),)), depth, prime=prime)):
                    power, order = table, 1
                    while power != unit:
                        power, order = told_product(power, table), order + 1
                    self.assertEqual(table.order(), order)
        letter = Word("a", (("a", 1),))
        self.assertEqual([Table.of(letter, depth, prime=2).order() for depth in (1, 2, 3, 4, 5)], [2, 4, 4, 8, 8])
        self.assertEqual([Table.of(letter, depth, prime=3).order() for depth in (1, 2, 3, 4, 5)], [3, 3, 9, 9, 9])
        self.assertEqual([Table.of(letter, 5, prime=prime).order() for prime in (5, 7)], [25, 7])
        self.assertEqual(Table.unit("ab", 3, prime=5).order(), 1)

    def test_cut(self):
        for letters, depth, prime in kinds():
            table = some_table(letters, depth, 7, prime)
            for less in range(1, depth + 1):
                right = tuple(table[pattern] for pattern in patterns(letters, less))
                self.assertEqual(table.cut(less), Table(letters, less, right, prime=prime))
            self.assertEqual(table.cut(depth), table)

    def test_with_entry(self):
        for letters, depth, prime in kinds():
            table = some_table(letters, depth, 8, prime)
            for pattern in patterns(letters, depth)[:40]:
                for entry in (0, 5, -3, MOST):
                    changed = table.with_entry(pattern, entry)
                    right = [rest(entry, prime) if some == pattern else table[some] for some in patterns(letters, depth)]
                    self.assertEqual((changed.entries, changed.prime), (tuple(right), prime))

    def test_modulo(self):
        for letters, depth, prime in kinds():
            if prime is not None:
                entries = some_entries(letters, depth, 9)
                self.assertEqual(Table(letters, depth, entries).modulo(prime), Table(letters, depth, entries, prime=prime))
        long = Table("ab", 3, (MOST,) * 14).power(MOST)
        self.assertEqual(long.modulo(7).entries, tuple(entry % 7 for entry in long.entries))
        self.assertGreater(abs(long["aba"]), 10 ** 300)

    def test_number(self):
        for letters, depth, prime in kinds():
            table, word = some_table(letters, depth, 10, prime), some_word(letters, 4, 10)
            weights = {pattern: at - 3 for at, pattern in enumerate(all_texts(letters, depth)) if at % 3 != 1}
            total = Sum(letters, weights, prime=prime)
            right = sum(number * (1 if pattern == "" else table[pattern]) for pattern, number in weights.items())
            self.assertEqual(table.number(total), rest(right, prime))
            self.assertEqual(Table.of(word, depth, prime=prime).number(total), total.at_word(word))
            self.assertEqual(table.number(Sum(letters, {}, prime=prime)), 0)
            self.assertEqual(table.number(Sum(letters, {"": 1}, prime=prime)), 1)


class TableErrorsTest(Case):
    def wrong_entries(self, many):
        wrong = wrong_ones(lambda value: False)
        right = (1,) * (many - 1)
        wrong += [right + (value,) for value in (True, None, "1", MOST + 1, -MOST - 1, (1,), 10 ** 250)]
        return [right, right + (1, 1), [1] * many, right[:-1] + (False, 1)] + wrong

    def test_constructor(self):
        slots = [LETTERS_SLOT, DEPTH_SLOT, Slot((1,) * 6, self.wrong_entries(6), InvalidOperation), PRIME_SLOT]
        self.check_slots(Table, slots)
        self.check_slots(Table.of, [WORD_SLOT, DEPTH_SLOT, PRIME_SLOT])
        self.check_slots(Table.unit, [LETTERS_SLOT, DEPTH_SLOT, PRIME_SLOT])
        for letters, depth in itertools.product(("a", "ab", "abc"), (1, 2, 3, 4, 5)):
            many = len(patterns(letters, depth))
            self.assertEqual(Table(letters, depth, (MOST,) * many).entries, (MOST,) * many)
            self.raised(InvalidOperation, Table, letters, depth, (0,) * (many + 1))
            self.raised(InvalidOperation, Table, letters, depth, (0,) * (many - 1))

    def test_patterns(self):
        table = some_table("ab", 3, 1)
        right = is_some_text("ab", 3)
        wrong = wrong_ones(right) + ["aaaa", "abab", "c", "ba" * 200, 0, slice(0, 1)]
        for value in wrong:
            self.raised(InvalidPattern, lambda: table[value])
        slots = [Slot("a", [value for value in wrong if not isinstance(value, slice)] + [""], InvalidPattern),
                 Slot(3, wrong_ones(is_plain_integer), InvalidNumber)]
        self.check_slots(table.with_entry, slots)

    def test_operands(self):
        table = some_table("ab", 2, 1)
        others = wrong_ones(lambda value: False) + [some_table("ab", 1, 1), some_table("ab", 3, 1), some_table("ac", 2, 1),
                                                    some_table("abc", 2, 1), some_table("ab", 2, 1, 2), some_table("a", 2, 1)]
        for other in others:
            self.raised(InvalidOperation, lambda: table * other)
        self.raised(InvalidOperation, lambda: table.modulo(2) * table.modulo(3))
        self.raised(InvalidOperation, lambda: table.modulo(2) * table)

    def test_numbers(self):
        table = some_table("ab", 3, 1)
        self.check_slots(table.power, [Slot(3, wrong_ones(is_plain_integer), InvalidNumber)])
        for depth in (1, 3, 5):
            wrong = wrong_ones(lambda value: is_plain_integer(value) and 1 <= value <= depth) + [depth + 1, 0]
            self.check_slots(some_table("ab", depth, 1).cut, [Slot(1, wrong, InvalidNumber)])
        for some in (table, table.modulo(2)):
            self.check_slots(some.modulo, [Slot(3, WRONG_PRIMES, InvalidNumber)])
        self.raised(InvalidOperation, table.modulo(2).modulo, 2)
        self.raised(InvalidOperation, table.order)
        self.raised(InvalidOperation, Table.unit("a", 1).order)

    def test_sums(self):
        table = some_table("ab", 2, 1)
        self.check_slots(table.number, [Slot(Sum("ab", {"ab": 1}), wrong_ones(lambda value: isinstance(value, Sum)), InvalidSum)])
        for total in (Sum("a", {"a": 1}), Sum("ac", {"a": 1}), Sum("abc", {}), Sum("ab", {"a": 1}, prime=2), Sum("ab", {"aba": 1})):
            self.raised(InvalidOperation, table.number, total)
        self.raised(InvalidOperation, table.modulo(2).number, Sum("ab", {"a": 1}))
        self.raised(InvalidOperation, table.modulo(2).number, Sum("ab", {"a": 1}, prime=3))
        self.assertEqual(table.modulo(2).number(Sum("ab", {"aba": 2, "a": 1}, prime=2)), table["a"] % 2)
