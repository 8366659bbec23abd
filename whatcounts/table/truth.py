"""True tables, which are those of the counts of words."""

from whatcounts.base.arithmetic import power_of, rest_of
from whatcounts.base.checks import check_pattern, check_prime, check_some_prime
from whatcounts.base.made import Made
from whatcounts.base.names import check_letters, is_pattern
from whatcounts.base.texts import all_texts, text_order
from whatcounts.errors import InvalidOperation, NotTrue, TooMany
from whatcounts.pattern.leading import bracket_of, free_patterns
from whatcounts.sums.overlays import overlays
from whatcounts.table.factors import cut_in_equals, product_by_exponents, product_by_values
from whatcounts.table.products import dict_of_entries
from whatcounts.table.tables import Table, are_integers, check_depth, check_table
from whatcounts.word.runs import undone_runs
from whatcounts.word.words import MAX_RUNS, Word

FAR_TOO_OFTEN = 400


def does_follow(table, one, other):
    """Whether a table follows the rule for two patterns."""
    check_table(table)
    check_pattern(table.letters, one)
    check_pattern(table.letters, other)
    if len(one) + len(other) > table.depth:
        raise InvalidOperation("the patterns have together more letters than the depth")
    return follows(table, entries_of(table), one, other)


def entries_of(table):
    """The dict from all patterns, the empty one among them, to the entries of a table."""
    return dict_of_entries(table.letters, table.depth, table.entries)


def follows(table, entries, one, other):
    """Whether the entries of a table follow the rule for two patterns."""
    told = sum([many * entries[pattern] for pattern, many in overlays(table.letters, one, other)])
    return rest_of(entries[one] * entries[other] - told, table.prime) == 0


def is_true(table):
    """Whether a table is that of a word."""
    return first_fault(table) is None


def first_fault(table):
    """The first fault of a table, or `None`."""
    check_table(table)
    entries = entries_of(table)
    patterns = all_texts(table.letters, table.depth)
    for size in range(2, table.depth + 1):
        for one in patterns:
            if 1 <= len(one) <= size - len(one):
                for other in patterns:
                    if len(other) == size - len(one) and text_order(one) <= text_order(other):
                        if not follows(table, entries, one, other):
                            return one, other
    return None


def is_fault(table, value):
    """Whether the value is a fault of a table, in either order."""
    check_table(table)
    if not isinstance(value, tuple) or len(value) != 2:
        return False
    one, other = value
    if not is_pattern(table.letters, one) or not is_pattern(table.letters, other) or one == "" or other == "":
        return False
    return len(one) + len(other) <= table.depth and not follows(table, entries_of(table), one, other)


def free_values(table):
    """The tuple of the entries of a table at the free patterns."""
    check_table(table)
    entries = entries_of(table)
    return tuple([entries[pattern] for pattern in free_patterns(table.letters, table.depth, prime=table.prime)])


def by_free(letters, depth, numbers, *, prime=None):
    """The only true table with these entries at the free patterns."""
    check_free_numbers(letters, depth, numbers, prime)
    entries = product_by_values(letters, depth, numbers, prime)[1]
    return Table(letters, depth, Made(entries), prime=prime)


def check_free_numbers(letters, depth, numbers, prime):
    """Raise an error unless there is a number for each free pattern."""
    check_letters(letters)
    check_depth(depth)
    if not are_integers(numbers):
        raise InvalidOperation("the numbers are a tuple of integers")
    check_some_prime(prime)
    if len(numbers) != len(free_patterns(letters, depth, prime=prime)):
        raise InvalidOperation("there is a number for each free pattern")


def exponents(table):
    """The exponents of a table, which must be true."""
    check_table(table)
    fault = first_fault(table)
    if fault is not None:
        raise NotTrue(fault[0], fault[1])
    return product_by_values(table.letters, table.depth, free_values(table), table.prime)[0]


def by_exponents(letters, depth, numbers, *, prime=None):
    """The table with these exponents."""
    check_free_numbers(letters, depth, numbers, prime)
    return Table(letters, depth, Made(product_by_exponents(letters, depth, numbers, prime)), prime=prime)


def how_many_true(letters, depth, prime):
    """The number of the true tables of a depth modulo a prime."""
    check_letters(letters)
    check_depth(depth)
    check_prime(prime)
    return power_of(prime, len(free_patterns(letters, depth, prime=prime)))


def paper(table):
    """A paper that a table is true, or that it is not."""
    fault = first_fault(table)
    return ("word", exponents(table)) if fault is None else ("fault", fault[0], fault[1])


def is_paper(table, value):
    """Whether the value is a paper of a table."""
    check_table(table)
    if not isinstance(value, tuple) or len(value) < 2:
        return False
    if value[0] == "fault":
        return is_fault(table, value[1:])
    if value[0] != "word" or len(value) != 2 or not are_integers(value[1]):
        return False
    return is_true(table) and value[1] == exponents(table)


def word_of(table):
    """A word whose table is the table, which must be true."""
    runs = []
    numbers = exponents(table)
    for pattern, exponent in zip(free_patterns(table.letters, table.depth, prime=table.prime), numbers):
        leading, many = cut_in_equals(pattern)
        runs.extend(raised_runs(bracket_of(table.letters, leading).runs, many * exponent))
    return Word(table.letters, Made(tuple(runs)))


def raised_runs(runs, number):
    """The runs of so many of a bracket, one behind the other."""
    if len(runs) == 1:
        return ((runs[0][0], runs[0][1] * number),)
    # powers of unlike brackets take only little of one another away
    if abs(number) > FAR_TOO_OFTEN:
        raise TooMany(MAX_RUNS)
    once = runs if number > 0 else undone_runs(runs)
    return once * abs(number)
