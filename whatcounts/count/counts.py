"""Counts of patterns in words, and weights of functions on texts."""

from whatcounts.base.arithmetic import binomials
from whatcounts.base.checks import check_between, check_integer, check_most, check_pattern, check_text
from whatcounts.base.names import MAX_DEPTH, MAX_PATTERN, check_letters
from whatcounts.base.texts import all_texts
from whatcounts.count.selections import alternating_sum, first_places, latest_places, next_places, selections
from whatcounts.count.shared import counts_in_runs, starts_of
from whatcounts.word.words import check_word

MAX_WEIGHT = 12


def count(word, pattern):
    """The count of a pattern in a word."""
    return beginnings(word, pattern)[-1]


def beginnings(word, pattern):
    """The tuple of the counts of all beginnings of a pattern in a word, from the empty one on."""
    check_word(word)
    check_pattern(word.letters, pattern)
    counts = counts_in_runs(starts_of([pattern]), word.runs)
    return tuple(counts.values())


def binomial(number, size):
    """The number of ways to choose so many of a number, for any integer."""
    check_integer(number)
    check_between(size, 0, MAX_PATTERN)
    return binomials(number, size)[-1]


def scattered(letters, text, pattern):
    """Tell all ascending tuples of indices of a text that select a pattern, in Python's order."""
    check_text(letters, text)
    check_pattern(letters, pattern)
    latest = latest_places(text, pattern)
    places = None if latest is None else first_places(text, pattern, 0)
    while places is not None:
        yield tuple(places)
        places = next_places(text, pattern, places, latest)


def weight(letters, pattern, call):
    """The weight of a function on texts at a pattern."""
    check_pattern(letters, pattern)
    check_most(len(pattern), MAX_WEIGHT)
    return alternating_sum(pattern, {chosen: call(chosen) for chosen in selections(pattern)})


def weights_up_to(letters, depth, call):
    """The dict from the patterns of at most so many letters with a weight that is not 0 to the weights."""
    check_letters(letters)
    check_between(depth, 0, MAX_DEPTH)
    patterns = all_texts(letters, depth)
    numbers = {text: call(text) for text in patterns}
    weights = {pattern: alternating_sum(pattern, numbers) for pattern in patterns}
    return {pattern: number for pattern, number in weights.items() if number != 0}
