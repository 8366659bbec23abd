"""Overlays of patterns, and other sums that are made of a sum."""

from whatcounts.base.checks import check_between, check_most, check_pattern
from whatcounts.base.made import Made
from whatcounts.base.names import check_letters, is_letters, is_text
from whatcounts.base.texts import text_order
from whatcounts.errors import InvalidOperation
from whatcounts.sums.sums import MAX_DEGREE, MAX_WEIGHTS, Sum, check_sum
from whatcounts.sums.weights import added_weights, turned_weights, weights_of_led, weights_of_product

MAX_OVERLAY = 8
MAX_CHOSEN = 4
MAX_LED = 8
# more than there are patterns of at most twelve letters
NO_LIMIT = 3 ** 14


def overlays(letters, one, other):
    """The tuple of the pairs of a pattern and the number of overlays of two patterns that it is."""
    check_pattern(letters, one)
    check_pattern(letters, other)
    check_most(len(one) + len(other), MAX_OVERLAY)
    found = weights_of_product({one: 1}, {other: 1}, None, NO_LIMIT)
    return tuple([(pattern, found[pattern]) for pattern in sorted(found, key=text_order)])


def binomial_of(total, size):
    """The exact sum whose numbers are the numbers of ways to choose so many of those of an exact sum."""
    check_sum(total)
    check_between(size, 0, MAX_CHOSEN)
    if total.prime is not None:
        raise InvalidOperation("the sum is not exact")
    check_most(size * (total.degree or 0), MAX_DEGREE)
    chosen = {"": 1}
    for below in range(size):
        # C(n, j + 1) is C(n, j) (n - j) divided by j + 1; only the last one has to keep the limit
        factor = added_weights(total.weights, {"": below}, -1)
        most = MAX_WEIGHTS if below == size - 1 else NO_LIMIT
        product = weights_of_product(chosen, factor, None, most)
        chosen = {pattern: number // (below + 1) for pattern, number in product.items()}
    return Sum(total.letters, Made(chosen))


def turned_round(total):
    """The sum whose numbers are those of a sum at the texts turned round."""
    check_sum(total)
    return Sum(total.letters, Made(turned_weights(total.weights)), prime=total.prime)


def renamed(total, letters):
    """The sum over other letters, as many, which stand in order for those of a sum."""
    check_sum(total)
    check_letters(letters)
    if len(letters) != len(total.letters):
        raise InvalidOperation("there are not as many letters")
    names = {old: new for old, new in zip(total.letters, letters)}
    weights = {"".join([names[old] for old in pattern]): number for pattern, number in total.weights.items()}
    return Sum(letters, Made(weights), prime=total.prime)


def led(total, words):
    """The sum whose numbers are those of a sum at texts with a text in the place of each letter."""
    check_sum(total)
    if not are_led_words(total.letters, words):
        raise InvalidOperation("words are a dict from one to three letters to texts of at most eight letters")
    weights = weights_of_led(total.weights, words, total.prime, MAX_WEIGHTS)
    return Sum("".join(sorted(words)), Made(weights), prime=total.prime)


def are_led_words(letters, value):
    """Whether the value is a dict from each of some letters to short texts of these letters."""
    if not isinstance(value, dict) or not all([isinstance(name, str) and len(name) == 1 for name in value]):
        return False
    if not is_letters("".join(sorted(value))):
        return False
    return all([is_text(letters, text) and len(text) <= MAX_LED for text in value.values()])
