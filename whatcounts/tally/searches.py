"""The texts whose rows of numbers are no sums of multiples of those of texts ahead of them."""

from whatcounts.tally.proofs import are_sums, basis_of_rows
from whatcounts.tally.spans import RestSpan, WholeSpan, first_place
from whatcounts.tally.squares import dot, rest_row, rest_square

# so many bits of 1 are a prime
PRIME_BITS = (127, 607, 2203)


class Search:
    """A row at the empty text, and for each letter the lines that lead it on, exact or with a prime.

    A letter is put behind a text, or ahead of it. Not the rows themselves are compared, but what they are at some
    looks, if there are any.
    """

    def __init__(self, letters, start, lines, looks, is_ahead, prime):
        self.over = letters
        self.start = start
        self.lines = lines
        self.looks = looks
        self.is_ahead = is_ahead
        self.modulus = prime
        self.width = len(start) if looks is None else len(looks)
        self.known = {"": start}

    def modulo(self, prime):
        """The search with the rests of all numbers."""
        lines = {letter: rest_square(rows, prime) for letter, rows in self.lines.items()}
        looks = None if self.looks is None else rest_square(self.looks, prime)
        return Search(self.over, rest_row(self.start, prime), lines, looks, self.is_ahead, prime)

    def longer(self, texts):
        """The list of the texts with a letter more than some, in order."""
        if self.is_ahead:
            return [letter + text for letter in self.over for text in texts]
        return [text + letter for text in texts for letter in self.over]

    def row(self, text):
        """The row of a text; that of the text without the letter that was put last is known."""
        if text not in self.known:
            letter, shorter = (text[0], text[1:]) if self.is_ahead else (text[-1], text[:-1])
            row = self.known[shorter]
            self.known[text] = rest_row([dot(line, row) for line in self.lines[letter]], self.modulus)
        return self.known[text]

    def seen(self, text):
        """What the row of a text is at the looks."""
        row = self.row(text)
        return row if self.looks is None else rest_row([dot(look, row) for look in self.looks], self.modulus)

    def all_seen(self, texts):
        """The list of what the rows of some texts are at the looks."""
        return [self.seen(text) for text in texts]


def new_texts(search):
    """The list of the new texts, in order, and a basis of what their rows are, `None` if it is all rows."""
    if search.modulus is not None:
        return searched(search, RestSpan(search.modulus))
    for bits in PRIME_BITS:
        found = proven(search, search.modulo((1 << bits) - 1))
        if found is not None:
            return found
    return searched(search, WholeSpan())


def searched(search, span):
    """What `new_texts` tells, by a span that knows each row as it is."""
    found = []
    level = [""]
    while level and len(span.rows) < search.width:
        new = new_of_level(search, span, level)
        found.extend(new)
        level = search.longer(new)
    return found, basis_of(span, search.width)


def new_of_level(search, span, level):
    """The list of those of some texts whose rows are no sums of multiples of those in a span; they are put to it."""
    new = []
    for text in level:
        left = span.left(search.seen(text))
        if first_place(left) is not None:
            span.put(left)
            new.append(text)
    return new


def basis_of(span, width):
    """The tuple of the rows of a span, or `None` if it is all rows of so many numbers."""
    return None if len(span.rows) == width else tuple([tuple(row) for row in span.rows.values()])


def proven(search, rests):
    """What `new_texts` tells, for integers, or `None` if the rests modulo a great prime are those of others.

    Rows whose rests are no sums of multiples of others are none themselves. For those whose rests are, it is proved
    with the integers; there is nothing to prove once there are as many rows as places.
    """
    span = RestSpan(rests.modulus)
    found, sums = [], []
    level = [""]
    while level and len(found) < search.width:
        new = []
        for text in level:
            left = span.left(rests.seen(text))
            if first_place(left) is None:
                sums.append(text)
            elif not sums or are_sums(search.all_seen(found + new), search.all_seen(sums), span):
                sums = []
                span.put(left)
                new.append(text)
            else:
                return None
        found.extend(new)
        level = search.longer(new)
    if len(found) == search.width:
        return found, None
    rows = search.all_seen(found)
    return (found, basis_of_rows(rows, span)) if are_sums(rows, search.all_seen(sums), span) else None
