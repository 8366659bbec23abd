"""[14.1]: falling rows of groups."""

import itertools

from tests.helpers import Case, Slot, all_texts, is_plain_integer, wrong_ones
from tests.test_tables import some_word
from tests.test_tallies import WRONG_PRIMES
from tests.test_turns import FOUR, SIX, THREE, back, closure, cycles, small_groups, some_group, then
from whatcounts.count.counts import count
from whatcounts.errors import InvalidGroup, InvalidNumber
from whatcounts.group.falling import fall_depth, fall_sizes, falling
from whatcounts.group.turns import Group
from whatcounts.pattern.leading import bracket_of
from whatcounts.table.tables import Table
from whatcounts.word.words import Word

PRIMES = (2, 3, 5, 7)
GROUP_SLOT = Slot(THREE, wrong_ones(lambda value: isinstance(value, Group)), InvalidGroup)
PRIME_SLOT = Slot(2, WRONG_PRIMES, InvalidNumber)


def times(turn, many):
    led = tuple(range(len(turn)))
    for _ in range(many):
        led = then(led, turn)
    return led


def told_row(group, prime, size):
    """D(1), .., D(size) by the words of [14.1]: all pairs of turns, and all turns so many times."""
    points = len(group)
    row = [closure(points, list(group.moves.values()))]
    undone = {turn: back(turn) for turn in row[0]}
    for number in range(2, size + 1):
        kinds = {then(then(x, y), then(undone[x], undone[y])) for x in row[-1] for y in row[0]}
        kinds |= {times(x, prime) for x in row[(number + prime - 1) // prime - 1]}
        row.append(closure(points, sorted(kinds)))
    return row


def some_groups():
    """Groups of up to sixty turns, some with a number of turns that is a power of a prime."""
    yield from [group for group in small_groups() if len(group.all_turns()) <= 24]
    yield Group("ab", {"a": cycles(8, range(8)), "b": cycles(8, (1, 7), (2, 6), (3, 5))})
    yield Group("ab", {"a": cycles(9, range(3)), "b": cycles(9, (0, 3, 6), (1, 4, 7), (2, 5, 8))})
    yield Group("ab", {"a": cycles(4, (0, 1), (2, 3)), "b": cycles(4, (0, 2), (1, 3))})
    yield Group("ab", {"a": cycles(7, range(7)), "b": cycles(7, (1, 2, 4), (3, 6, 5))})
    yield Group("ab", {"a": cycles(10, range(5)), "b": cycles(10, range(5, 10))})
    yield Group("ab", {"a": cycles(8, (0, 1, 2, 3), (4, 5, 6, 7)), "b": cycles(8, (0, 4, 2, 6), (1, 7, 3, 5))})
    for points in (7, 9, 16, 25, 27):
        yield Group("a", {"a": cycles(points, range(points))})


def tables_group(letters, depth, prime):
    """The group of the true tables of a depth modulo a prime, which letters lead to one another from behind."""
    start = Table.unit(letters, depth, prime=prime)
    steps = {letter: Table.of(Word(letters, ((letter, 1),)), depth, prime=prime) for letter in letters}
    tables = [start]
    for table in tables:
        tables.extend(led for led in (table * step for step in steps.values()) if led not in tables)
    place = {table.entries: at for at, table in enumerate(tables)}
    return Group(letters, {letter: tuple(place[(table * step).entries] for table in tables) for letter, step in steps.items()})


class FallingTest(Case):
    def test_falling_rows(self):
        for group in some_groups():
            for prime in PRIMES:
                row = told_row(group, prime, 6)
                for size, turns in enumerate(row, 1):
                    self.assertEqual(falling(group, prime, size), turns)

    def test_sizes_and_depths(self):
        for group in some_groups():
            for prime in PRIMES:
                many = len(group.all_turns())
                while many % prime == 0:
                    many //= prime
                if many > 1:
                    self.assertEqual((fall_sizes(group, prime), fall_depth(group, prime)), (None, None))
                    self.assertGreater(len(falling(group, prime, 60)), 1)
                    continue
                sizes = [len(turns) for turns in told_row(group, prime, 30)]
                sizes = sizes[:sizes.index(1) + 1]
                self.assertEqual(fall_sizes(group, prime), tuple(sizes))
                self.assertEqual(fall_depth(group, prime), len(sizes) - 1)
                self.assertEqual(len(falling(group, prime, len(sizes))), 1)
                self.assertEqual(len(falling(group, prime, 60)), 1)

    def test_edges(self):
        for prime in PRIMES:
            for still in (Group("a", {"a": (0,)}), Group("ab", {"a": tuple(range(60)), "b": tuple(range(60))})):
                self.assertEqual((fall_sizes(still, prime), fall_depth(still, prime)), ((1,), 0))
                for size in (1, 2, 60):
                    self.assertEqual(falling(still, prime, size), (tuple(range(len(still))),))
        wide = Group("a", {"a": cycles(60, range(32))})
        self.assertEqual(fall_sizes(wide, 2), (32, 16, 8, 8, 4, 4, 4, 4) + (2,) * 8 + (1,))
        self.assertEqual(fall_sizes(Group("a", {"a": cycles(49, range(49))}), 7), (49,) + (7,) * 6 + (1,))
        self.assertEqual([fall_depth(Group("a", {"a": cycles(27, range(27))}), prime) for prime in PRIMES], [None, 9, None, None])

    def test_rows_that_stand_still_and_fall_on(self):
        for prime, group in ((2, Group("a", {"a": cycles(60, range(32))})), (3, Group("a", {"a": cycles(27, range(27))}))):
            for size, turns in enumerate(told_row(group, prime, 34), 1):
                self.assertEqual(falling(group, prime, size), turns)

    def test_great_groups(self):
        four = Group("abc", {"a": cycles(60, range(32)), "b": tuple(-at % 32 for at in range(32)) + tuple(range(32, 60)),
                             "c": cycles(60, range(32, 48))})
        self.assertEqual(len(four.all_turns()), 1024)
        self.assertEqual(fall_sizes(four, 2), (1024, 128, 32, 32) + (8,) * 4 + (2,) * 8 + (1,))
        self.assertIsNone(fall_sizes(four, 3))
        self.assertEqual([len(falling(four, 3, size)) for size in (1, 2, 60)], [1024, 1024, 1024])
        six = Group("ab", {"a": cycles(6, (0, 1)), "b": cycles(6, range(6))})
        self.assertEqual([len(falling(six, 2, size)) for size in (1, 2, 60)], [720, 360, 360])
        self.assertEqual([len(falling(six, 3, size)) for size in (1, 2, 60)], [720, 720, 720])


class WordsTest(Case):
    def test_words_and_counts(self):
        """A word is in D(n) of these groups exactly if its counts at all patterns of 1 to n - 1 letters are 0."""
        for letters, depth, prime in (("ab", 1, 2), ("ab", 2, 2), ("ab", 2, 3), ("a", 3, 2), ("a", 4, 3), ("abc", 1, 3), ("ab", 1, 7)):
            group = tables_group(letters, depth, prime)
            self.assertLessEqual(fall_depth(group, prime), depth)
            words = [some_word(letters, 4, seed) for seed in range(20)]
            words += [word.power(prime) for word in words[:6]] + [word.power(prime * prime) for word in words[:4]]
            words += [one.bracket(other) for one, other in zip(words[:8], words[8:])]
            for word in words:
                counts = [(len(pattern), count(word, pattern) % prime) for pattern in all_texts(letters, depth)[1:]]
                for size in range(1, depth + 2):
                    right = all(number == 0 for length, number in counts if length < size)
                    self.assertIs(group.turn(word) in falling(group, prime, size), right)

    def test_words_in_all_groups(self):
        """Words whose counts are 0 are in D(n) of every group."""
        words = [(bracket_of("ab", "abb"), 3, None), (Word.of("ab", "abAB"), 2, None), (bracket_of("ab", "aabb"), 4, None)]
        words += [(Word("ab", (("a", prime * prime), ("b", -prime * prime))), prime * prime, prime) for prime in (2, 3)]
        words += [(Word.of("ab", "abAB").power(2), 4, 2), (Word.of("ab", "ab").power(9), 9, 3)]
        groups = [group for group in some_groups() if group.letters == "ab"] + [some_group("ab", 5, seed) for seed in range(3)]
        for (word, size, only), group, prime in itertools.product(words, groups, PRIMES):
            if only in (None, prime):
                if size <= 5:
                    self.assertTrue(all(count(word, text) % prime == 0 for text in all_texts("ab", size - 1)[1:]))
                self.assertIn(group.turn(word), falling(group, prime, size))


class FallingErrorsTest(Case):
    def test_slots(self):
        sizes = wrong_ones(lambda value: is_plain_integer(value) and 1 <= value <= 60) + [0, 61]
        self.check_slots(falling, [GROUP_SLOT, PRIME_SLOT, Slot(60, sizes, InvalidNumber)])
        self.check_slots(fall_sizes, [GROUP_SLOT, PRIME_SLOT])
        self.check_slots(fall_depth, [GROUP_SLOT, PRIME_SLOT])

    def test_too_many_turns(self):
        more = some_group("ab", 60, 1)
        self.too_many(2000, falling, more, 2, 60)
        self.too_many(2000, falling, more, 7, 1)
        self.too_many(2000, fall_sizes, more, 3)
        self.too_many(2000, fall_depth, more, 2)
        self.bad_number(61, falling, more, 2, 61)
        self.bad_number(4, falling, more, 4, 61)
        self.bad_number(None, fall_sizes, more, None)
        self.assertEqual([fall_depth(FOUR, 2), fall_depth(FOUR, 3), fall_depth(SIX, 2)], [2, None, None])
