"""Leading patterns, their brackets, and the free patterns."""

from whatcounts.base.arithmetic import power_of
from whatcounts.base.checks import check_between, check_pattern, check_some_prime
from whatcounts.base.names import MAX_DEPTH, MAX_PATTERN, check_letters, is_pattern
from whatcounts.base.texts import all_texts, text_order
from whatcounts.errors import InvalidOperation, TooMany
from whatcounts.pattern.parts import bracket_parts, cut_in_halves, leading_factors
from whatcounts.word.runs import bracket_runs
from whatcounts.word.words import MAX_RUNS, Word

FAR_TOO_MANY_RUNS = 2000


def is_leading(letters, value):
    """Whether the value is a leading pattern of these letters."""
    return is_pattern(letters, value) and value != "" and is_least_end(value)


def is_least_end(pattern):
    """Whether the pattern is less than each of its proper ends that is not empty."""
    return all([pattern < pattern[start:] for start in range(1, len(pattern))])


def factors(letters, pattern):
    """The tuple of leading patterns, none less than the next one, that are the pattern one behind the other."""
    check_pattern(letters, pattern)
    return leading_factors(pattern)


def halves(letters, pattern):
    """The halves of a leading pattern of at least two letters."""
    check_leading(letters, pattern)
    if len(pattern) == 1:
        raise InvalidOperation("a pattern of one letter has no halves")
    return cut_in_halves(pattern)


def bracket_of(letters, pattern):
    """The bracket of a leading pattern, a word."""
    check_leading(letters, pattern)
    runs = {}
    for part in bracket_parts(pattern):
        if len(part) == 1:
            runs[part] = ((part, 1),)
        else:
            one, other = cut_in_halves(part)
            runs[part] = bracket_runs(runs[one], runs[other])
        # brackets outgrow those of the halves: without this, those of long patterns would have no end
        if len(runs[part]) > FAR_TOO_MANY_RUNS:
            raise TooMany(MAX_RUNS)
    return Word(letters, runs[pattern])


def patterns_of(letters, depth):
    """The tuple of all patterns of at most so many letters, in order, without the empty one."""
    check_letters(letters)
    check_between(depth, 1, MAX_DEPTH)
    return all_texts(letters, depth)[1:]


def free_patterns(letters, depth, *, prime=None):
    """The tuple of the free patterns of at most so many letters, in order."""
    check_letters(letters)
    check_between(depth, 1, MAX_DEPTH)
    check_some_prime(prime)
    leading = [pattern for pattern in all_texts(letters, depth)[1:] if is_least_end(pattern)]
    if prime is None:
        return tuple(leading)
    powers = [power for pattern in leading for power in leading_powers(pattern, depth, prime)]
    return tuple(sorted(powers, key=text_order))


def leading_powers(pattern, depth, prime):
    """The leading powers of a leading pattern that have at most so many letters."""
    powers = []
    power = pattern
    while len(power) <= depth:
        powers.append(power)
        power = power * prime
    return powers


def how_many(letters, size):
    """The number of leading patterns with just so many letters."""
    check_letters(letters)
    check_between(size, 1, MAX_PATTERN)
    divisors = [number for number in range(1, size + 1) if size % number == 0]
    rows = [divisor_sign(number) * power_of(len(letters), size // number) for number in divisors]
    return sum(rows) // size


def divisor_sign(number):
    """0 if the square of a prime divides the number, otherwise 1 or -1 if evenly or oddly many primes divide it."""
    sign = 1
    rest = number
    for prime in range(2, number + 1):
        if rest % (prime * prime) == 0:
            return 0
        if rest % prime == 0:
            rest = rest // prime
            sign = -sign
    return sign


def check_leading(letters, pattern):
    """Raise an error unless the pattern is a leading one of these letters."""
    check_pattern(letters, pattern)
    if not is_leading(letters, pattern):
        raise InvalidOperation("the pattern is not a leading one")
