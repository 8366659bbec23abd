"""Rows of numbers, and square tables, which are tuples of rows."""

from whatcounts.base.arithmetic import rest_of

# room for the sum of the products of sixty pairs of rests
SLOT_BITS = 16


def dot(one, other):
    """The sum of the products of the numbers of two rows, place by place."""
    return sum([left * right for left, right in zip(one, other)])


def rest_row(row, prime):
    """The row of the numbers, or of their rests."""
    return tuple([rest_of(number, prime) for number in row])


def rest_square(square, prime):
    """The table of the numbers, or of their rests."""
    return tuple([rest_row(row, prime) for row in square])


def turned_square(square):
    """The table whose rows are the columns of a table."""
    return tuple([tuple(column) for column in zip(*square)])


def unit_row(place, width):
    """The row that is 1 at a place and 0 elsewhere."""
    return tuple([1 if at == place else 0 for at in range(width)])


def scaled_row(row, number):
    """The row of so many times the numbers."""
    return tuple([number * part for part in row])


def paired_row(one, other):
    """The row of the products of each number of a row with each one of another row."""
    return tuple([left * right for left in one for right in other])


def paired_square(one, other):
    """The table of the products of each number of a table with each one of another table."""
    return tuple([paired_row(left, right) for left in one for right in other])


def joined_square(one, other):
    """The table with a table at its beginning, another one at its end, and 0 elsewhere."""
    upper = [row + (0,) * len(other) for row in one]
    lower = [(0,) * len(one) + row for row in other]
    return tuple(upper + lower)


def raised_square(square, number):
    """The table with a number more at each place at which row and column are the same."""
    return tuple([
        tuple([part + number if across == down else part for across, part in enumerate(row)])
        for down, row in enumerate(square)
    ])


def row_behind(row, moves, text, prime):
    """The row times the tables of the letters of a text."""
    columns = {letter: turned_square(square) for letter, square in moves.items()}
    behind = row
    for letter in text:
        behind = rest_row([dot(behind, column) for column in columns[letter]], prime)
    return behind


def column_ahead(column, moves, text, prime):
    """The tables of the letters of a text times the column."""
    ahead = column
    for letter in text[::-1]:
        ahead = rest_row([dot(row, ahead) for row in moves[letter]], prime)
    return ahead


def product_square(one, other, prime):
    """The product of two tables of rests."""
    rows = [packed_row(row) for row in other]
    return tuple([unpacked_row(dot(row, rows), len(other), prime) for row in one])


def packed_row(row):
    """One number for a row of rests; sums of multiples of such numbers tell the sums at each place."""
    number = 0
    for part in row[::-1]:
        number = (number << SLOT_BITS) | part
    return number


def unpacked_row(number, width, prime):
    """The row of the rests that a number tells."""
    slot = (1 << SLOT_BITS) - 1
    return tuple([((number >> (SLOT_BITS * at)) & slot) % prime for at in range(width)])
