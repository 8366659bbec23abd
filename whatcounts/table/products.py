"""Products and powers of tables, told as dicts from all patterns, the empty one among them, to entries."""

from whatcounts.base.arithmetic import binomials, rest_of
from whatcounts.base.texts import all_texts


def dict_of_entries(letters, depth, entries):
    """The table with these entries at the patterns that are not empty, in order."""
    return {pattern: entry for pattern, entry in zip(all_texts(letters, depth), (1,) + entries)}


def product_of(one, other):
    """The product of two tables: the sum over all ways to put a pattern together of a beginning and an end."""
    return {
        pattern: sum([one[pattern[:end]] * other[pattern[end:]] for end in range(len(pattern) + 1)])
        for pattern in one
    }


def rests_of_table(table, prime):
    """The table of the rests, or the table itself."""
    return {pattern: rest_of(entry, prime) for pattern, entry in table.items()}


def raised_table(table, number, many):
    """The product of so many of a table, or of so many of the undone one.

    The table without the 1 at the empty pattern leaves nothing if it is multiplied more than `many` times.
    """
    power = {pattern: 1 if pattern == "" else 0 for pattern in table}
    raised = power
    ways = binomials(number, many)
    for size in range(1, many + 1):
        power = longer_power(power, table, size)
        raised = {pattern: entry + ways[size] * power.get(pattern, 0) for pattern, entry in raised.items()}
    return raised


def longer_power(power, table, size):
    """The product of so many of a table without the 1 at the empty pattern, by that of one less.

    It has no entries at patterns of fewer letters.
    """
    return {
        pattern: sum([power[pattern[:end]] * table[pattern[end:]] for end in range(size - 1, len(pattern))])
        for pattern in table if len(pattern) >= size
    }
