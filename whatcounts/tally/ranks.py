"""Ranks of tallies, and texts at which their numbers are not 0, or unlike."""

from whatcounts.base.arithmetic import rest_of
from whatcounts.errors import InvalidOperation
from whatcounts.tally.lean import columns_of, lean_of, seen_search
from whatcounts.tally.searches import Search, new_texts
from whatcounts.tally.squares import dot, joined_square, scaled_row, unit_row
from whatcounts.tally.tallies import Tally, check_tally


def rank(tally):
    """The least width of a tally with the same numbers."""
    return len(new_beginnings(tally))


def new_beginnings(tally):
    """The tuple of the new beginnings, in order."""
    check_tally(tally)
    return tuple(new_texts(beginning_search(tally))[0])


def new_ends(tally):
    """The tuple of the new ends, in order."""
    check_tally(tally)
    rows = new_texts(Search(tally.letters, tally.first, columns_of(tally.moves), None, False, tally.prime))[1]
    return tuple(new_texts(Search(tally.letters, tally.last, tally.moves, rows, True, tally.prime))[0])


def beginning_search(tally):
    """The search for the new beginnings."""
    return seen_search(tally.first, tally.moves, tally.last, tally.prime)


def first_text(tally):
    """The first text at which the number of a tally is not 0, or `None`."""
    check_tally(tally)
    return first_of(tally.first, tally.moves, tally.last, tally.prime)


def parting_text(one, other):
    """The first text at which the numbers of two tallies are unlike, or `None`."""
    check_tally(one)
    check_tally(other)
    if one.letters != other.letters or one.prime != other.prime:
        raise InvalidOperation("the tallies have unlike letters or primes")
    # the difference can be wider than a tally
    first = one.first + scaled_row(other.first, -1)
    moves = {letter: joined_square(one.moves[letter], other.moves[letter]) for letter in one.letters}
    return first_of(first, moves, one.last + other.last, one.prime)


def are_alike(one, other):
    """Whether two tallies have the same numbers at all texts."""
    return parting_text(one, other) is None


def first_of(first, moves, last, prime):
    """The first text at which the number by a first row, tables and a last column is not 0, or `None`."""
    search = Search("".join(moves), first, columns_of(moves), None, False, prime)
    # where a row is a sum of multiples of rows ahead of it, its number is 0 if theirs are
    for text in new_texts(search)[0]:
        if rest_of(dot(search.row(text), last), prime) != 0:
            return text
    return None


def least_tally(tally):
    """The tally as wide as the rank of a tally with a prime, with the same numbers."""
    check_tally(tally)
    prime = tally.prime
    if prime is None:
        raise InvalidOperation("the tally is exact")
    lean = lean_of(tally.first, tally.moves, tally.last, prime)
    return Tally(tally.letters, unit_row(0, len(lean.found)), lean.squares, lean.column, prime=prime)
