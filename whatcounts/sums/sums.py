"""Sums: functions on texts with finitely many weights."""

from whatcounts.base.arithmetic import prime_words, rest_of
from whatcounts.base.checks import check_integer, check_most, check_prime, check_some_prime, check_text
from whatcounts.base.made import Made
from whatcounts.base.names import check_letters
from whatcounts.count.shared import counts_in_runs, counts_in_text, starts_of
from whatcounts.errors import InvalidOperation, InvalidSum
from whatcounts.sums.weights import added_weights, are_weights, kept_weights, turned_weights, weights_ahead
from whatcounts.sums.weights import weights_of_product
from whatcounts.word.words import check_word

MAX_DEGREE = 12
MAX_WEIGHTS = 400


def check_sum(value):
    """Raise an error unless the value is a sum."""
    if not isinstance(value, Sum):
        raise InvalidSum("a sum is wanted")


class Sum:
    """A function on texts: finitely many weights times counts. It never changes."""

    def __init__(self, letters, weights, *, prime=None):
        check_letters(letters)
        if not isinstance(weights, Made) and not are_weights(letters, weights, MAX_DEGREE):
            raise InvalidOperation("weights are a dict from patterns of at most twelve letters to integers")
        check_some_prime(prime)
        kept = kept_weights(weights.content if isinstance(weights, Made) else weights, prime)
        check_most(len(kept), MAX_WEIGHTS)
        self._letters = letters
        self._weights = kept
        self._prime = prime

    @property
    def letters(self):
        """The letters."""
        return self._letters

    @property
    def prime(self):
        """The prime, or `None`."""
        return self._prime

    @property
    def weights(self):
        """The dict of the weights that are not 0."""
        return dict(self._weights)

    @property
    def degree(self):
        """The length of the longest pattern with a weight, or `None` if there is none."""
        return max([len(pattern) for pattern in self._weights], default=None)

    def at(self, text):
        """The number at a text."""
        check_text(self._letters, text)
        return self._number(counts_in_text(starts_of(self._weights), text))

    def at_word(self, word):
        """The number at a word."""
        check_word(word)
        if word.letters != self._letters:
            raise InvalidOperation("the word has other letters")
        return self._number(counts_in_runs(starts_of(self._weights), word.runs))

    def times(self, number):
        """The sum whose numbers are so many times those of this one."""
        check_integer(number)
        return self._with(added_weights({}, self._weights, number))

    def behind(self, text):
        """The sum whose numbers are those of this one at texts with a text behind them."""
        check_text(self._letters, text)
        return self._with(turned_weights(weights_ahead(turned_weights(self._weights), text[::-1])))

    def ahead(self, text):
        """The sum whose numbers are those of this one at texts with a text ahead of them."""
        check_text(self._letters, text)
        return self._with(weights_ahead(self._weights, text))

    def modulo(self, prime):
        """The sum with the rests of the weights."""
        check_prime(prime)
        if self._prime is not None:
            raise InvalidOperation("the sum has a prime already")
        return Sum(self._letters, Made(self._weights), prime=prime)

    def __len__(self):
        return len(self._weights)

    def __eq__(self, other):
        return (isinstance(other, Sum) and self._letters == other._letters and self._prime == other._prime
                and self._weights == other._weights)

    def __str__(self):
        return f"sum of {len(self._weights)} counts over {self._letters}{prime_words(self._prime)}"

    def __add__(self, other):
        self._check_operand(other)
        return self._with(added_weights(self._weights, other._weights, 1))

    def __sub__(self, other):
        self._check_operand(other)
        return self._with(added_weights(self._weights, other._weights, -1))

    def __mul__(self, other):
        self._check_operand(other)
        check_most((self.degree or 0) + (other.degree or 0), MAX_DEGREE)
        return self._with(weights_of_product(self._weights, other._weights, self._prime, MAX_WEIGHTS))

    def _with(self, weights):
        return Sum(self._letters, Made(weights), prime=self._prime)

    def _number(self, counts):
        return rest_of(sum([number * counts[pattern] for pattern, number in self._weights.items()]), self._prime)

    def _check_operand(self, other):
        if not isinstance(other, Sum) or other._letters != self._letters or other._prime != self._prime:
            raise InvalidOperation("the other operand is no sum with the same letters and prime")
