"""How far the weights of a tally go."""

from whatcounts.base.arithmetic import rest_of
from whatcounts.tally.lean import columns_of, lean_of
from whatcounts.tally.searches import PRIME_BITS, Search, new_of_level, new_texts
from whatcounts.tally.spans import RestSpan, WholeSpan, first_place
from whatcounts.tally.squares import dot, rest_row, rest_square, unit_row
from whatcounts.tally.tallies import weighed


class Course:
    """How far the weights of a tally go.

    `deepest` is the length of the longest pattern with a weight, -1 if there is none. If the weights are endless,
    `endless` is a pattern that shows it, otherwise `None`.
    """

    def __init__(self, deepest, endless, search, column):
        self.deepest = deepest
        self.endless = endless
        self.search = search
        self.column = column

    def first_weights(self, most):
        """The dict of all weights, in the order of the patterns, or `None` if there are more than so many."""
        weights = {}
        level = [""]
        while level:
            begun = [text for text in level if first_place(self.search.seen(text)) is not None]
            # each of these texts begins some pattern with a weight, which is no shorter
            if len(weights) + len(begun) > most:
                return None
            for text in begun:
                number = rest_of(dot(self.search.row(text), self.column), self.search.modulus)
                if number != 0:
                    weights[text] = number
            level = self.search.longer(begun)
        return weights


def course_of(tally):
    """How far the weights of a tally go."""
    rows = weighed(tally)
    prime = tally.prime
    # weights that are not 0 modulo some prime are not 0
    lean = lean_modulo(rows, (1 << PRIME_BITS[0]) - 1 if prime is None else prime)
    size, columns = lasting_columns(lean)
    if columns:
        return Course(None, endless_pattern(lean, columns, len(tally)), None, None)
    if prime is None:
        return whole_course(rows)
    return Course(size - 1, None, lean.row_search(), lean.column)


def lean_modulo(tally, prime):
    """The rests of a tally in terms of its new beginnings, modulo a prime of any size."""
    squares = {letter: rest_square(square, prime) for letter, square in tally.moves.items()}
    return lean_of(rest_row(tally.first, prime), squares, rest_row(tally.last, prime), prime)


def lasting_columns(lean):
    """A size, and a basis of the columns of all texts of at least so many letters.

    It is the first size for which there is none, or for which those of longer texts have the same basis.
    """
    columns = [unit_row(at, len(lean.found)) for at in range(len(lean.found))]
    size = 0
    while columns:
        span = RestSpan(lean.modulus)
        for column in columns:
            for square in lean.squares.values():
                span.put(span.left([dot(row, column) for row in square]))
        if len(span.rows) == len(columns):
            return size, columns
        columns = list(span.rows.values())
        size = size + 1
    return size, columns


def endless_pattern(lean, columns, size):
    """A pattern of at least so many letters with a weight, by a basis of the columns that last."""
    at = min([first_place(column) for column in columns])
    text = lean.found[at]
    row = unit_row(at, len(lean.found))
    steps = columns_of(lean.squares)
    while len(text) < size:
        text, row = longer_row(text, row, steps, columns, lean.modulus)
    ends = lean.column_search()
    for end in new_texts(ends)[0]:
        if dot(row, ends.row(end)) % lean.modulus != 0:
            return text + end
    return None


def longer_row(text, row, steps, columns, prime):
    """A text with a letter more, and its row, which like that of the text is not 0 at all columns that last."""
    for letter, lines in steps.items():
        longer = rest_row([dot(line, row) for line in lines], prime)
        if any([dot(longer, column) % prime != 0 for column in columns]):
            return text + letter, longer
    return None


def whole_course(tally):
    """How far the numbers of an exact tally go."""
    ends = Search(tally.letters, tally.last, tally.moves, None, True, None)
    behind = new_texts(ends)[0]
    search = Search(tally.letters, tally.first, columns_of(tally.moves), ends.all_seen(behind), False, None)
    size = 0
    new = new_of_level(search, WholeSpan(), [""])
    while new and size < len(tally):
        size = size + 1
        new = new_of_level(search, WholeSpan(), search.longer(new))
    if new:
        return Course(None, new[0] + behind[first_place(search.seen(new[0]))], None, None)
    return Course(size - 1, None, search, tally.last)
