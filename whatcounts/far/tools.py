"""Tools that reckon step by step what a far text does."""

from whatcounts.count.shared import counts_in_text
from whatcounts.group.moves import joint_of
from whatcounts.table.products import product_of, raised_table, rests_of_table
from whatcounts.tally.squares import product_square, unit_row


class TextTool:
    """Reckons the text itself."""

    def written(self, text):
        """What a written text is."""
        return text

    def joined(self, one, other):
        """What two texts are, one behind the other."""
        return one + other

    def repeated(self, one, number):
        """What so many of a text are, at least one."""
        return "" if one == "" else one * number


class CountTool:
    """Reckons the counts at some patterns, of which each part is among them, in order."""

    def __init__(self, patterns, prime):
        self.patterns = patterns
        self.modulus = prime
        self.most = max([len(pattern) for pattern in patterns])

    def written(self, text):
        """The counts in a text."""
        return rests_of_table(counts_in_text(self.patterns, text), self.modulus)

    def joined(self, one, other):
        """The counts in two texts, one behind the other."""
        return rests_of_table(product_of(one, other), self.modulus)

    def repeated(self, one, number):
        """The counts in so many of a text."""
        return rests_of_table(raised_table(one, number, self.most), self.modulus)


def risen(tool, one, number):
    """What so many of a text do, at least one, by a tool that can join."""
    told = None
    double = one
    left = number
    while left > 0:
        if left % 2 == 1:
            told = double if told is None else tool.joined(told, double)
        left = left // 2
        if left > 0:
            double = tool.joined(double, double)
    return told


class StateTool:
    """Reckons for each state the one to which a text leads it."""

    def __init__(self, moves, many):
        self.moves_of = moves
        self.start = tuple(range(many))

    def written(self, text):
        """Where a text leads each state."""
        led = self.start
        for letter in text:
            led = joint_of(led, self.moves_of[letter])
        return led

    def joined(self, one, other):
        """Where two texts, one behind the other, lead each state."""
        return joint_of(one, other)

    def repeated(self, one, number):
        """Where so many of a text, at least one, lead each state."""
        return risen(self, one, number)


class SquareTool:
    """Reckons the product of the tables, of rests, that belong to the letters of a text."""

    def __init__(self, moves, width, prime):
        self.moves_of = moves
        self.width = width
        self.modulus = prime

    def written(self, text):
        """The product for a text."""
        square = tuple([unit_row(at, self.width) for at in range(self.width)])
        for letter in text:
            square = self.joined(square, self.moves_of[letter])
        return square

    def joined(self, one, other):
        """The product for two texts, one behind the other."""
        return product_square(one, other, self.modulus)

    def repeated(self, one, number):
        """The product for so many of a text, at least one."""
        return risen(self, one, number)
