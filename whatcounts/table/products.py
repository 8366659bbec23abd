"""Products and powers of tables, told as dicts from all patterns, the empty one among them, to entries."""

from whatcounts.base.arithmetic import binomials


def product_of(one, other):
    """The product of two tables: the sum over all ways to put a pattern together of a beginning and an end."""
    return {
        pattern: sum([one[pattern[:end]] * other[pattern[end:]] for end in range(len(pattern) + 1)])
        for pattern in one
    }


def raised_table(table, number, depth):
    """The product of so many of a table, or of so many of the undone one."""
    unit = {pattern: 1 if pattern == "" else 0 for pattern in table}
    rest = {pattern: 0 if pattern == "" else entry for pattern, entry in table.items()}
    powers = [unit]
    for _ in range(depth):
        powers.append(product_of(powers[-1], rest))
    # the table is the unit and the rest, and of the rest no more factors than the depth leave anything
    ways = binomials(number, depth)
    return {pattern: sum([way * power[pattern] for way, power in zip(ways, powers)]) for pattern in table}
