"""Tallies in terms of their new beginnings."""

from whatcounts.base.arithmetic import rest_of
from whatcounts.tally.searches import Search, new_texts
from whatcounts.tally.spans import RestSpan
from whatcounts.tally.squares import dot, turned_square, unit_row


class Lean:
    """A tally modulo a prime, of any size, that is as wide as its rank.

    Its rows belong to the new beginnings: the first row is 1 at the first one of them, the empty text, and 0 elsewhere.
    """

    def __init__(self, letters, found, squares, column, prime):
        self.over = letters
        self.found = found
        self.squares = squares
        self.column = column
        self.modulus = prime

    def row_search(self):
        """The search for the rows of texts."""
        return Search(self.over, unit_row(0, len(self.found)), columns_of(self.squares), None, False, self.modulus)

    def column_search(self):
        """The search for the columns of texts."""
        return Search(self.over, self.column, self.squares, None, True, self.modulus)


def columns_of(moves):
    """The dict from each letter to the columns of its table."""
    return {letter: turned_square(square) for letter, square in moves.items()}


def seen_search(first, moves, last, prime):
    """The search for the new beginnings: two rows are the same if they are so at all columns."""
    letters = "".join(moves)
    columns = new_texts(Search(letters, last, moves, None, True, prime))[1]
    return Search(letters, first, columns_of(moves), columns, False, prime)


def lean_of(first, moves, last, prime):
    """The tally with these rests, modulo a prime, in terms of its new beginnings."""
    search = seen_search(first, moves, last, prime)
    found = new_texts(search)[0]
    squares = lean_squares(search, found, "".join(moves), prime)
    column = tuple([rest_of(dot(search.row(text), last), prime) for text in found])
    return Lean("".join(moves), found, squares, column, prime)


def lean_squares(search, found, letters, prime):
    """The dict from letters to tables that tell how the rows of the new beginnings with a letter more come of them.

    A search tells the rows.
    """
    span = RestSpan(prime)
    for at, new in enumerate(found):
        # behind each row stands which of the new beginnings it is
        span.put(span.left(search.seen(new) + unit_row(at, len(found))))
    return {
        letter: tuple([shares(span, search.seen(text + letter), len(found)) for text in found])
        for letter in letters
    }


def shares(span, row, many):
    """The row of how many times each new beginning stands in a row."""
    left = span.left(row + (0,) * many)
    return tuple([-number % span.modulus for number in left[len(row):]])
