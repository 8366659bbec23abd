"""Tallies whose numbers are those of sums."""

from whatcounts.base.arithmetic import rest_of
from whatcounts.base.checks import check_most
from whatcounts.base.made import Made
from whatcounts.base.names import is_integer, is_pattern
from whatcounts.errors import InvalidOperation, TooMany
from whatcounts.sums.sums import MAX_DEGREE, MAX_WEIGHTS, Sum
from whatcounts.tally.ranks import rank
from whatcounts.tally.searches import PRIME_BITS
from whatcounts.tally.squares import dot, row_behind
from whatcounts.tally.tallies import check_tally, weighed
from whatcounts.tell.course import course_of


def is_finite(tally):
    """Whether the numbers of a tally are those of a sum."""
    check_tally(tally)
    return course_of(tally).endless is None


def sum_of(tally):
    """The only sum with the numbers of a tally, or `None`."""
    check_tally(tally)
    return sum_of_course(tally, course_of(tally))


def sum_of_course(tally, course):
    """The sum with the numbers of a tally whose weights have this course, or `None`."""
    if course.endless is not None:
        return None
    check_most(course.deepest, MAX_DEGREE)
    weights = course.first_weights(MAX_WEIGHTS)
    if weights is None:
        raise TooMany(MAX_WEIGHTS)
    return Sum(tally.letters, Made(weights), prime=tally.prime)


def tell_paper(tally):
    """A paper that the numbers of a tally are those of a sum, or that they are not."""
    check_tally(tally)
    course = course_of(tally)
    total = sum_of_course(tally, course)
    return ("endless", course.endless) if total is None else ("sum", tuple(total.weights.items()))


def is_tell_paper(tally, value):
    """Whether the value is a paper of a tally."""
    check_tally(tally)
    if not isinstance(value, tuple) or len(value) != 2:
        return False
    if value[0] == "endless":
        return is_endless_pattern(tally, value[1])
    return value[0] == "sum" and are_all_weights(tally, value[1])


def is_endless_pattern(tally, value):
    """Whether the value is a pattern with at least as many letters as the rank of a tally, and a weight."""
    return is_pattern(tally.letters, value) and has_weight(weighed(tally), value) and len(value) >= rank(tally)


def has_weight(tally, pattern):
    """Whether the number of a tally at a pattern is not 0."""
    # exact numbers can be very long, and are seldom 0 modulo a great prime
    primes = ((1 << PRIME_BITS[0]) - 1, None) if tally.prime is None else (tally.prime,)
    for prime in primes:
        row = row_behind(tally.first, tally.moves, pattern, prime)
        if rest_of(dot(row, tally.last), prime) != 0:
            return True
    return False


def are_all_weights(tally, value):
    """Whether the value tells all weights of a tally, as pairs in the order of the patterns."""
    if not isinstance(value, tuple) or len(value) > MAX_WEIGHTS:
        return False
    if not all([is_pair(tally.letters, pair) for pair in value]):
        return False
    course = course_of(tally)
    if course.endless is not None:
        return False
    weights = course.first_weights(len(value))
    return weights is not None and tuple(weights.items()) == value


def is_pair(letters, value):
    """Whether the value is a pair of a pattern and an integer."""
    return isinstance(value, tuple) and len(value) == 2 and is_pattern(letters, value[0]) and is_integer(value[1])


def degree_of(tally):
    """The degree of the sum with the numbers of a tally, or `None` if it has no weights."""
    check_tally(tally)
    course = course_of(tally)
    if course.endless is not None:
        raise InvalidOperation("the numbers of the tally are not those of a sum")
    return None if course.deepest < 0 else course.deepest
