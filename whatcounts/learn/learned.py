"""Functions told back from their numbers at all short texts."""

from whatcounts.base.checks import check_between, check_prime, check_some_prime
from whatcounts.base.made import Made
from whatcounts.base.names import MAX_DEPTH, check_letters
from whatcounts.base.texts import all_texts
from whatcounts.count.counts import weights_up_to
from whatcounts.learn.rows import ToldRows, first_of_rows, new_of_rows
from whatcounts.reader.readers import Reader
from whatcounts.sums.sums import Sum
from whatcounts.tally.lean import lean_squares
from whatcounts.tally.squares import unit_row
from whatcounts.tally.tallies import Tally

MOST_SIZE = 7
MOST_STATES = 4
MOST_RANK = 3


def texts_up_to(letters, size):
    """The tuple of all texts of at most so many letters, in order."""
    check_letters(letters)
    check_between(size, 0, MOST_SIZE)
    return all_texts(letters, size)


def learned_reader(letters, most, call):
    """The least reader of at most so many states with the answers of a function at all short texts, or `None`."""
    check_letters(letters)
    check_between(most, 1, MOST_STATES)
    said = {text: 1 if call(text) != 0 else 0 for text in all_texts(letters, 2 * most - 1)}
    # two of so many states are told apart by a text with fewer letters
    found = first_of_rows(ToldRows(letters, said, all_texts(letters, most - 1)), most)
    if found is None:
        return None
    yes = [state for state, text in enumerate(found[0]) if said[text] == 1]
    reader = Reader(letters, found[1], tuple(yes))
    return reader if all([(text in reader) == (number == 1) for text, number in said.items()]) else None


def learned_tally(letters, most, call, prime):
    """The least tally of a rank of at most so much with the rests of the numbers of a function at all short texts, or
    `None`.
    """
    check_letters(letters)
    check_between(most, 1, MOST_RANK)
    check_prime(prime)
    said = {text: call(text) % prime for text in all_texts(letters, 2 * most - 1)}
    # the new ends have fewer letters than the rank
    rows = ToldRows(letters, said, all_texts(letters, most - 1))
    found = new_of_rows(rows, most, prime)
    if found is None:
        return None
    last = tuple([said[text] for text in found])
    tally = Tally(letters, unit_row(0, len(found)), lean_squares(rows, found, letters, prime), last, prime=prime)
    return tally if all([tally.at(text) == number for text, number in said.items()]) else None


def learned_sum(letters, degree, call, *, prime=None):
    """The only sum of at most a degree with the numbers of a function at all texts of at most so many letters."""
    check_letters(letters)
    check_between(degree, 0, MAX_DEPTH)
    check_some_prime(prime)
    return Sum(letters, Made(weights_up_to(letters, degree, call)), prime=prime)


def first_unlike(letters, size, one, other):
    """The first text of at most so many letters at which two functions have unlike numbers, or `None`."""
    for text in texts_up_to(letters, size):
        if one(text) != other(text):
            return text
    return None
