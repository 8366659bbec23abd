"""Tallies: numbers that are reckoned letter by letter."""

from whatcounts.base.arithmetic import prime_words, rest_of
from whatcounts.base.checks import check_integer, check_most, check_prime, check_some_prime, check_text
from whatcounts.base.made import Made
from whatcounts.base.names import check_letters, is_integer
from whatcounts.count.shared import starts_of
from whatcounts.errors import InvalidOperation, InvalidTally
from whatcounts.sums.sums import check_sum
from whatcounts.tally.squares import column_ahead, dot, joined_square, paired_row, paired_square, raised_square
from whatcounts.tally.squares import rest_row, rest_square, row_behind, scaled_row, turned_square

MAX_WIDTH = 60


def check_tally(value):
    """Raise an error unless the value is a tally."""
    if not isinstance(value, Tally):
        raise InvalidTally("a tally is wanted")


def is_row(value, width):
    """Whether the value is a tuple of so many integers."""
    return isinstance(value, tuple) and len(value) == width and all([is_integer(number) for number in value])


def is_square(value, width):
    """Whether the value is a tuple of so many rows of as many integers."""
    return isinstance(value, tuple) and len(value) == width and all([is_row(row, width) for row in value])


def are_moves(letters, value, width):
    """Whether the value is a dict from each letter to a table of so many rows."""
    if not isinstance(value, dict) or len(value) != len(letters):
        return False
    return all([letter in value and is_square(value[letter], width) for letter in letters])


def check_parts(letters, first, moves, last):
    """Raise an error unless these are the first row, the tables and the last column of a tally."""
    if not isinstance(first, tuple) or len(first) > MAX_WIDTH or not is_row(first, len(first)):
        raise InvalidOperation("the first row is a tuple of at most sixty integers")
    if not are_moves(letters, moves, len(first)):
        raise InvalidOperation("the moves are a dict from each letter to a square table as wide as the first row")
    if not is_row(last, len(first)):
        raise InvalidOperation("the last column is a tuple of as many integers as the first row has")


class Tally:
    """A first row, a square table for each letter, and a last column. It never changes."""

    def __init__(self, letters, first, moves, last, *, prime=None):
        check_letters(letters)
        row, squares, column = first, moves, last
        if isinstance(first, Made) and isinstance(moves, Made) and isinstance(last, Made):
            row, squares, column = first.content, moves.content, last.content
        else:
            check_parts(letters, first, moves, last)
        check_some_prime(prime)
        self._letters = letters
        self._first = rest_row(row, prime)
        self._moves = {letter: rest_square(squares[letter], prime) for letter in letters}
        self._last = rest_row(column, prime)
        self._prime = prime

    @property
    def letters(self):
        """The letters."""
        return self._letters

    @property
    def first(self):
        """The first row."""
        return self._first

    @property
    def moves(self):
        """The dict from the letters to their tables."""
        return dict(self._moves)

    @property
    def last(self):
        """The last column."""
        return self._last

    @property
    def prime(self):
        """The prime, or `None`."""
        return self._prime

    def at(self, text):
        """The number at a text."""
        check_text(self._letters, text)
        row = row_behind(self._first, self._moves, text, self._prime)
        return rest_of(dot(row, self._last), self._prime)

    def times(self, number):
        """A tally whose numbers are so many times those of this one."""
        check_integer(number)
        return self._with(scaled_row(self._first, number), self._moves, self._last)

    def behind(self, text):
        """A tally whose numbers are those of this one at texts with a text behind them."""
        check_text(self._letters, text)
        return self._with(self._first, self._moves, column_ahead(self._last, self._moves, text, self._prime))

    def ahead(self, text):
        """A tally whose numbers are those of this one at texts with a text ahead of them."""
        check_text(self._letters, text)
        return self._with(row_behind(self._first, self._moves, text, self._prime), self._moves, self._last)

    def back(self):
        """A tally whose numbers are those of this one at the texts turned round."""
        moves = {letter: turned_square(square) for letter, square in self._moves.items()}
        return self._with(self._last, moves, self._first)

    def modulo(self, prime):
        """The tally with the rests of all numbers."""
        check_prime(prime)
        if self._prime is not None:
            raise InvalidOperation("the tally has a prime already")
        return Tally(self._letters, Made(self._first), Made(self._moves), Made(self._last), prime=prime)

    def __len__(self):
        return len(self._first)

    def __eq__(self, other):
        return (isinstance(other, Tally) and self._letters == other._letters and self._prime == other._prime
                and self._first == other._first and self._moves == other._moves and self._last == other._last)

    def __str__(self):
        return f"tally of {len(self._first)} numbers over {self._letters}{prime_words(self._prime)}"

    def __add__(self, other):
        self._check_operand(other)
        return self._joined(other, 1)

    def __sub__(self, other):
        self._check_operand(other)
        return self._joined(other, -1)

    def __mul__(self, other):
        self._check_operand(other)
        check_most(len(self._first) * len(other._first), MAX_WIDTH)
        moves = {letter: paired_square(self._moves[letter], other._moves[letter]) for letter in self._letters}
        return self._with(paired_row(self._first, other._first), moves, paired_row(self._last, other._last))

    def _joined(self, other, times):
        check_most(len(self._first) + len(other._first), MAX_WIDTH)
        moves = {letter: joined_square(self._moves[letter], other._moves[letter]) for letter in self._letters}
        return self._with(self._first + scaled_row(other._first, times), moves, self._last + other._last)

    def _with(self, first, moves, last):
        return Tally(self._letters, Made(first), Made(moves), Made(last), prime=self._prime)

    def _check_operand(self, other):
        if not isinstance(other, Tally) or other._letters != self._letters or other._prime != self._prime:
            raise InvalidOperation("the other operand is no tally with the same letters and prime")


def tally_of(total):
    """A tally whose numbers are those of a sum: the row at a text has the counts of all beginnings."""
    check_sum(total)
    weights = total.weights
    starts = starts_of(weights)
    check_most(len(starts), MAX_WIDTH)
    moves = {letter: square_of_starts(starts, letter) for letter in total.letters}
    first = tuple([1 if start == "" else 0 for start in starts])
    last = tuple([weights.get(start, 0) for start in starts])
    return Tally(total.letters, Made(first), Made(moves), Made(last), prime=total.prime)


def square_of_starts(starts, letter):
    """The table that leads the counts of all beginnings to those with a letter more."""
    return tuple([
        tuple([1 if longer in (start, start + letter) else 0 for longer in starts])
        for start in starts
    ])


def weighed(tally):
    """A tally whose numbers are the weights of a tally at the texts as patterns."""
    check_tally(tally)
    return raised(tally, -1)


def summed(tally):
    """A tally whose numbers are the sums of the numbers of a tally at all selections of the texts."""
    check_tally(tally)
    return raised(tally, 1)


def raised(tally, number):
    """The tally with a number more at each place of its tables at which row and column are the same."""
    # a place of the text adds what it does by its letter, and what it does if it is left out
    moves = {letter: raised_square(square, number) for letter, square in tally.moves.items()}
    return Tally(tally.letters, Made(tally.first), Made(moves), Made(tally.last), prime=tally.prime)
