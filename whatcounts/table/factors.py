"""True tables as products of tables of brackets raised to numbers."""

from whatcounts.base.arithmetic import rest_of
from whatcounts.base.texts import all_texts
from whatcounts.count.shared import counts_in_runs
from whatcounts.pattern.leading import bracket_of, free_patterns
from whatcounts.pattern.parts import leading_factors
from whatcounts.table.products import product_of, raised_table, rests_of_table


class Product:
    """The product of tables that belong to free patterns, which are put to it one by one in their order."""

    def __init__(self, letters, depth, prime):
        self.over = letters
        self.deep = depth
        self.modulus = prime
        self.patterns = all_texts(letters, depth)
        self.told = {pattern: 1 if pattern == "" else 0 for pattern in self.patterns}

    def put(self, pattern, exponent):
        """Put the table of a free pattern to the product, raised to an exponent."""
        if exponent != 0:
            leading, many = cut_in_equals(pattern)
            counts = counts_in_runs(self.patterns, bracket_of(self.over, leading).runs)
            bracket = rests_of_table(counts, self.modulus)
            # the least pattern at which the bracket has an entry is the leading one
            factor = raised_table(bracket, many * exponent, self.deep // len(leading))
            self.told = rests_of_table(product_of(self.told, factor), self.modulus)

    def all_entries(self):
        """The tuple of the entries of the product, the one at the empty pattern left out."""
        return tuple(list(self.told.values())[1:])


def cut_in_equals(pattern):
    """The leading pattern, and how many of it are a free pattern."""
    leading = leading_factors(pattern)[0]
    return leading, len(pattern) // len(leading)


def product_by_values(letters, depth, values, prime):
    """The exponents and the entries of the true table with these entries at the free patterns."""
    product = Product(letters, depth, prime)
    exponents = []
    for pattern, number in zip(free_patterns(letters, depth, prime=prime), values):
        # what comes later adds nothing here, and the table of the pattern has the entry 1
        exponent = rest_of(number - product.told[pattern], prime)
        product.put(pattern, exponent)
        exponents.append(exponent)
    return tuple(exponents), product.all_entries()


def product_by_exponents(letters, depth, exponents, prime):
    """The entries of the true table with these exponents."""
    product = Product(letters, depth, prime)
    for pattern, number in zip(free_patterns(letters, depth, prime=prime), exponents):
        product.put(pattern, rest_of(number, prime))
    return product.all_entries()
