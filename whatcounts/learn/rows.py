"""Rows of the numbers of a function at texts that go on from one."""

from whatcounts.tally.searches import new_of_level
from whatcounts.tally.spans import RestSpan


class ToldRows:
    """For each text the row of the numbers at this text with each of some ends behind it."""

    def __init__(self, letters, said, ends):
        self.over = letters
        self.said = said
        self.ends = ends

    def seen(self, text):
        """The row of a text."""
        return tuple([self.said[text + end] for end in self.ends])


def first_of_rows(rows, most):
    """The list of the first texts with each row, and the moves among them, or `None` if there are more than so many."""
    found = [""]
    number = {rows.seen(""): 0}
    moves = {letter: [] for letter in rows.over}
    at = 0
    while at < len(found):
        for letter in rows.over:
            row = rows.seen(found[at] + letter)
            if row not in number:
                number[row] = len(found)
                found.append(found[at] + letter)
            moves[letter].append(number[row])
        if len(found) > most:
            return None
        at = at + 1
    return found, {letter: tuple(row) for letter, row in moves.items()}


def new_of_rows(rows, most, prime):
    """The list of the texts whose rows are no sums of multiples, by rests, of those of texts ahead of them, or `None`
    if there are more than so many.
    """
    span = RestSpan(prime)
    found = []
    level = [""]
    while level:
        new = new_of_level(rows, span, level)
        found.extend(new)
        if len(found) > most:
            return None
        level = [text + letter for text in new for letter in rows.over]
    return found
