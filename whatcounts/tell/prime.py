"""Readers whose answers are sums modulo a prime."""

from whatcounts.base.checks import check_prime
from whatcounts.base.names import PRIMES, is_integer, is_text
from whatcounts.group.falling import is_power
from whatcounts.group.moves import order_of
from whatcounts.group.parts import prime_divisors, turn_of_text
from whatcounts.group.turns import Group
from whatcounts.reader.least import answers, first_merge, is_merge, is_turning, least_reader
from whatcounts.reader.readers import check_reader
from whatcounts.tell.finite import are_all_weights, is_finite, sum_of


def is_by(reader, prime):
    """Whether the answers of a reader are a sum modulo a prime."""
    check_reader(reader)
    check_prime(prime)
    # the number of states that are led to one another divides the number of turns
    if not is_turning(reader) or not is_power(len(least_reader(reader)), prime):
        return False
    return is_finite(least_answers(reader, prime))


def least_answers(reader, prime):
    """The tally of the answers of the least reader."""
    return answers(least_reader(reader), prime=prime)


def sum_by(reader, prime):
    """The only sum with a prime whose numbers are the answers of a reader, or `None`."""
    return sum_of(least_answers(reader, prime)) if is_by(reader, prime) else None


def is_round(reader, prime, value):
    """Whether a reader is turning and the value is a round."""
    check_reader(reader)
    check_prime(prime)
    if not is_turning(reader) or not is_text_with_order(Group.of(reader), value):
        return False
    return has_other_prime(value[1], prime)


def is_text_with_order(group, value):
    """Whether the value is a pair of a text and the least number of times after which it leads all points back."""
    if not isinstance(value, tuple) or len(value) != 2:
        return False
    if not is_text(group.letters, value[0]) or not is_integer(value[1]):
        return False
    return order_of(turn_of_text(group, value[0])) == value[1]


def prime_paper(reader, prime):
    """A paper that the answers of a reader are a sum modulo a prime, or that they are not."""
    check_reader(reader)
    check_prime(prime)
    merge = first_merge(reader)
    if merge is not None:
        return ("merge",) + merge
    total = sum_by(reader, prime)
    if total is not None:
        return "sum", tuple(total.weights.items())
    # a prime that divides the number of turns divides the order of some turn
    return ("round",) + first_round(Group.of(reader), prime)


def first_round(group, modulus):
    """The first text for which some prime divides the least number of times after which it leads all points back, and
    does not divide a modulus; with this number. `None` if there is no such text.
    """
    for turn, text in group.turn_texts().items():
        order = order_of(turn)
        if has_other_prime(order, modulus):
            return text, order
    return None


def has_other_prime(number, modulus):
    """Whether some prime divides a number and not a modulus."""
    return not all([modulus % prime == 0 for prime in prime_divisors(number)])


def is_prime_paper(reader, prime, value):
    """Whether the value is a paper of a reader and a prime."""
    check_reader(reader)
    check_prime(prime)
    if not isinstance(value, tuple) or len(value) == 0:
        return False
    if value[0] == "merge":
        return is_merge(reader, value[1:])
    if value[0] == "round":
        return is_round(reader, prime, value[1:])
    return value[0] == "sum" and len(value) == 2 and are_all_weights(least_answers(reader, prime), value[1])


def primes_of(reader):
    """The ascending tuple of those of the four primes by which the answers of a reader are a sum."""
    check_reader(reader)
    return tuple([prime for prime in PRIMES if is_by(reader, prime)])
