"""Products and powers of tables, told as dicts from all patterns, the empty one among them, to entries."""

from whatcounts.base.arithmetic import binomials, rest_of
from whatcounts.base.texts import all_texts


def dict_of_entries(letters, depth, entries):
    """The table with these entries at the patterns that are not empty, in order."""
    return {pattern: entry for pattern, entry in zip(all_texts(letters, depth), (1,) + entries)}


def product_of(one, other):
    """The product of two tables: the sum over all ways to put a pattern together of a beginning and an end."""
    return {
        pattern: sum([one[pattern[:end]] * other[pattern[end:]] for end in range(len(pattern) + 1)])
        for pattern in one
    }


def rests_of_table(table, prime):
    """The table of the rests, or the table itself."""
    return {pattern: rest_of(entry, prime) for pattern, entry in table.items()}


def raised_table(table, number, many):
    """The product of so many of a table, or of so many of the undone one.

    The table without the 1 at the empty pattern leaves nothing if it is multiplied more than `many` times.
    """
    unit = {pattern: 1 if pattern == "" else 0 for pattern in table}
    rest = {pattern: 0 if pattern == "" else entry for pattern, entry in table.items()}
    powers = [unit]
    for _ in range(many):
        powers.append(product_of(powers[-1], rest))
    ways = binomials(number, many)
    return {pattern: sum([way * power[pattern] for way, power in zip(ways, powers)]) for pattern in table}
