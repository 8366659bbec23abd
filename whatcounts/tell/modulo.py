"""Readers whose answers hang on counts modulo a product of primes."""

from whatcounts.base.names import PRIMES, is_integer
from whatcounts.errors import InvalidNumber
from whatcounts.group.falling import fall_depth
from whatcounts.group.parts import comes_apart, first_clash, is_clash, prime_divisors, turn_in_part
from whatcounts.group.turns import Group
from whatcounts.reader.least import first_merge, is_merge, is_turning
from whatcounts.reader.readers import check_reader
from whatcounts.tell.prime import first_round, has_other_prime, is_text_with_order

ALL_PRIMES = 210


def is_modulus(value):
    """Whether the value is a modulus."""
    return is_integer(value) and 1 < value <= ALL_PRIMES and ALL_PRIMES % value == 0


def check_modulus(value):
    """Raise an error unless the value is a modulus."""
    if not is_modulus(value):
        raise InvalidNumber(value)


def depth_modulo(reader, modulus):
    """The least depth on which the answers of a reader hang modulo a modulus, or `None`."""
    check_reader(reader)
    check_modulus(modulus)
    return group_depth(Group.of(reader), modulus) if is_turning(reader) else None


def group_depth(group, modulus):
    """The depth of a reader with a group modulo a modulus, or `None`."""
    primes = prime_divisors(len(group.turn_texts()))
    if not all([modulus % prime == 0 for prime in primes]) or not comes_apart(group):
        return None
    return max([fall_depth(part_group(group, prime), prime) for prime in primes], default=0)


def part_group(group, prime):
    """The part of a group that comes apart for a prime, as a group of its own."""
    return Group(group.letters, {letter: turn_in_part(turn, prime) for letter, turn in group.moves.items()})


def least_modulus(reader):
    """The least modulus modulo which the answers of a reader hang on some depth, or `None`."""
    check_reader(reader)
    if not is_turning(reader):
        return None
    group = Group.of(reader)
    primes = prime_divisors(len(group.turn_texts()))
    if not all([prime in PRIMES for prime in primes]) or not comes_apart(group):
        return None
    modulus = 1
    for prime in primes:
        modulus = modulus * prime
    return max(modulus, min(PRIMES))


def modulo_paper(reader, modulus):
    """A paper that the answers of a reader hang on a depth modulo a modulus, or that they do not."""
    check_reader(reader)
    check_modulus(modulus)
    merge = first_merge(reader)
    if merge is not None:
        return ("merge",) + merge
    group = Group.of(reader)
    found = first_round(group, modulus)
    if found is not None:
        return ("round",) + found
    clash = first_clash(group)
    return ("depth", group_depth(group, modulus)) if clash is None else ("apart",) + clash


def is_modulo_paper(reader, modulus, value):
    """Whether the value is a paper of a reader and a modulus."""
    depth = depth_modulo(reader, modulus)
    if not isinstance(value, tuple) or len(value) == 0:
        return False
    if value[0] == "merge":
        return is_merge(reader, value[1:])
    if value[0] == "depth":
        return depth is not None and len(value) == 2 and is_integer(value[1]) and value[1] == depth
    if not is_turning(reader):
        return False
    group = Group.of(reader)
    if value[0] == "round":
        return is_text_with_order(group, value[1:]) and has_other_prime(value[2], modulus)
    return value[0] == "apart" and is_clash(group, value[1:])
