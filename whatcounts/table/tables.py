"""Tables of a number for each pattern of at most so many letters."""

from whatcounts.base.arithmetic import prime_words, rest_of
from whatcounts.base.checks import check_between, check_integer, check_pattern, check_prime, check_some_prime
from whatcounts.base.made import Made
from whatcounts.base.names import MAX_DEPTH, check_letters, is_integer
from whatcounts.base.texts import all_texts
from whatcounts.count.shared import counts_in_runs
from whatcounts.errors import InvalidOperation, InvalidPattern, InvalidTable
from whatcounts.sums.sums import check_sum
from whatcounts.table.products import dict_of_entries, product_of, raised_table
from whatcounts.tally.squares import rest_row
from whatcounts.word.words import check_word


def check_table(value):
    """Raise an error unless the value is a table."""
    if not isinstance(value, Table):
        raise InvalidTable("a table is wanted")


def check_depth(value):
    """Raise an error unless the value is a depth."""
    check_between(value, 1, MAX_DEPTH)


def are_integers(value):
    """Whether the value is a tuple of integers."""
    return isinstance(value, tuple) and all([is_integer(number) for number in value])


class Table:
    """A number for each pattern of at most so many letters, 1 for the empty one. It never changes."""

    def __init__(self, letters, depth, entries, *, prime=None):
        check_letters(letters)
        check_depth(depth)
        numbers = entries.content if isinstance(entries, Made) else entries
        if not isinstance(entries, Made):
            if not are_integers(entries) or len(entries) + 1 != len(all_texts(letters, depth)):
                raise InvalidOperation("entries are a tuple of an integer for each pattern that is not empty")
        check_some_prime(prime)
        self._letters = letters
        self._depth = depth
        self._entries = rest_row(numbers, prime)
        self._prime = prime

    @classmethod
    def of(cls, word, depth, *, prime=None):
        """The table of the counts of a word."""
        check_word(word)
        check_depth(depth)
        check_some_prime(prime)
        counts = counts_in_runs(all_texts(word.letters, depth), word.runs)
        return cls(word.letters, depth, Made(list(counts.values())[1:]), prime=prime)

    @classmethod
    def unit(cls, letters, depth, *, prime=None):
        """The table of the counts of the empty word."""
        check_letters(letters)
        check_depth(depth)
        check_some_prime(prime)
        return cls(letters, depth, (0,) * (len(all_texts(letters, depth)) - 1), prime=prime)

    @property
    def letters(self):
        """The letters."""
        return self._letters

    @property
    def depth(self):
        """The length of the longest patterns."""
        return self._depth

    @property
    def entries(self):
        """The tuple of the numbers for the patterns that are not empty, in order."""
        return self._entries

    @property
    def prime(self):
        """The prime, or `None`."""
        return self._prime

    def power(self, number):
        """The product of so many of the table, or of so many of the undone one."""
        check_integer(number)
        return self._with(self._raised(number))

    def order(self):
        """The least number, at least 1, for which the power is the unit table."""
        if self._prime is None:
            raise InvalidOperation("the table is exact")
        order = 1
        # powers by a prime: in the power by one that is greater than the depth nothing but the unit is left
        while any([entry != 0 for entry in self._with(self._raised(order)).entries]):
            order = order * self._prime
        return order

    def cut(self, depth):
        """The table of a lesser or equal depth with the same entries."""
        check_between(depth, 1, self._depth)
        many = len(all_texts(self._letters, depth)) - 1
        return Table(self._letters, depth, Made(self._entries[:many]), prime=self._prime)

    def with_entry(self, pattern, entry):
        """The table with another entry at a pattern."""
        self._check_short(pattern)
        if pattern == "":
            raise InvalidPattern("the entry at the empty pattern is always 1")
        check_integer(entry)
        table = self._table()
        table[pattern] = entry
        return self._with(table)

    def modulo(self, prime):
        """The table of the rests."""
        check_prime(prime)
        if self._prime is not None:
            raise InvalidOperation("the table has a prime already")
        return Table(self._letters, self._depth, Made(self._entries), prime=prime)

    def number(self, total):
        """The sum of the weights of a sum times the entries."""
        check_sum(total)
        if total.letters != self._letters or total.prime != self._prime:
            raise InvalidOperation("the sum has other letters, or another prime")
        if (total.degree or 0) > self._depth:
            raise InvalidOperation("the sum has weights at patterns that are too long")
        table = self._table()
        return rest_of(sum([number * table[pattern] for pattern, number in total.weights.items()]), self._prime)

    def __getitem__(self, pattern):
        self._check_short(pattern)
        return self._table()[pattern]

    def __iter__(self):
        raise TypeError("a table is not iterated over")

    def __len__(self):
        return len(self._entries)

    def __eq__(self, other):
        return (isinstance(other, Table) and self._letters == other._letters and self._depth == other._depth
                and self._entries == other._entries and self._prime == other._prime)

    def __str__(self):
        return f"table of depth {self._depth} over {self._letters}{prime_words(self._prime)}"

    def __mul__(self, other):
        if not isinstance(other, Table) or other._letters != self._letters or other._depth != self._depth:
            raise InvalidOperation("the other operand is no table with the same letters and depth")
        if other._prime != self._prime:
            raise InvalidOperation("the tables have unlike primes")
        return self._with(product_of(self._table(), other._table()))

    def __invert__(self):
        return self._with(self._raised(-1))

    def _raised(self, number):
        return raised_table(self._table(), number, self._depth)

    def _table(self):
        return dict_of_entries(self._letters, self._depth, self._entries)

    def _with(self, table):
        entries = [entry for pattern, entry in table.items() if pattern != ""]
        return Table(self._letters, self._depth, Made(entries), prime=self._prime)

    def _check_short(self, pattern):
        check_pattern(self._letters, pattern)
        if len(pattern) > self._depth:
            raise InvalidPattern("the pattern has more letters than the depth")
