"""Readers whose answers hang on the counts of so many letters modulo a prime."""

from whatcounts.base.checks import check_between, check_most, check_prime
from whatcounts.base.names import MAX_DEPTH, is_text
from whatcounts.base.texts import all_texts
from whatcounts.count.shared import counts_in_text
from whatcounts.errors import InvalidOperation
from whatcounts.group.falling import fall_depth
from whatcounts.group.moves import commutator_of, joint_of, raised_turn, still_turn
from whatcounts.group.turns import Group
from whatcounts.pattern.leading import free_patterns
from whatcounts.pattern.parts import bracket_parts, cut_in_halves
from whatcounts.reader.least import is_turning, least_reader
from whatcounts.reader.readers import check_reader
from whatcounts.reader.walks import first_pair_texts, rows_led
from whatcounts.table.factors import cut_in_equals
from whatcounts.table.tables import check_table
from whatcounts.table.truth import exponents, how_many_true

MAX_PAIRS = 20000


def depth_by(reader, prime):
    """The least depth on which the answers of a reader hang modulo a prime, or `None`."""
    check_reader(reader)
    check_prime(prime)
    return fall_depth(Group.of(reader), prime) if is_turning(reader) else None


def does_hang(reader, prime, depth):
    """Whether the answers of a reader hang on a depth modulo a prime."""
    check_hanging(reader, prime, depth)
    least = depth_by(reader, prime)
    return least is not None and least <= depth


def check_hanging(reader, prime, depth):
    """Raise an error unless these are a reader, a prime, and a depth or 0."""
    check_reader(reader)
    check_prime(prime)
    check_between(depth, 0, MAX_DEPTH)


def depth_paper(reader, prime, depth):
    """A paper that the answers of a reader hang on a depth modulo a prime, or that they do not."""
    check_hanging(reader, prime, depth)
    least = least_reader(reader)
    many = (1 if depth == 0 else how_many_true(reader.letters, depth, prime)) * len(least)
    check_most(many, MAX_PAIRS)
    moves = table_moves(reader.letters, prime, depth)
    # for each table the first text with each answer
    texts = {}
    for (table, state), text in first_pair_texts(moves, least.moves, many).items():
        answer = state in least.yes
        texts.setdefault((table, answer), text)
        if (table, not answer) in texts:
            return "pair", texts[(table, not answer)], text
    return ("hangs",)


def table_moves(letters, prime, depth):
    """How letters lead on, from behind, the tables of a depth modulo a prime, which are told by numbers from 0 on."""
    patterns = all_texts(letters, depth)
    place = {pattern: at for at, pattern in enumerate(patterns)}
    steps = {
        letter: [place[pattern[:-1]] if pattern[-1:] == letter else None for pattern in patterns]
        for letter in letters
    }
    start = tuple([1 if pattern == "" else 0 for pattern in patterns])
    return rows_led(start, steps, prime, MAX_PAIRS)[1]


def is_depth_paper(reader, prime, depth, value):
    """Whether the value is a paper of a reader, a prime and a depth."""
    hangs = does_hang(reader, prime, depth)
    if not isinstance(value, tuple) or len(value) not in (1, 3):
        return False
    if len(value) == 1:
        return value[0] == "hangs" and hangs
    return value[0] == "pair" and is_parted_pair(reader, prime, depth, value[1:])


def is_parted_pair(reader, prime, depth, pair):
    """Whether a pair has two texts with the same counts modulo a prime and unlike answers."""
    if not all([is_text(reader.letters, text) for text in pair]):
        return False
    one, other = pair
    if (one in reader) == (other in reader):
        return False
    patterns = all_texts(reader.letters, depth)
    counts, others = counts_in_text(patterns, one), counts_in_text(patterns, other)
    return all([(counts[pattern] - others[pattern]) % prime == 0 for pattern in patterns])


def answer_at(reader, table):
    """Whether a reader answers yes to the texts with a table, on the depth of which its answers must hang."""
    check_reader(reader)
    check_table(table)
    if reader.letters != table.letters:
        raise InvalidOperation("the reader and the table have unlike letters")
    numbers = exponents(table)
    if table.prime is None:
        raise InvalidOperation("the table is exact")
    if not does_hang(reader, table.prime, table.depth):
        raise InvalidOperation("the answers do not hang on the depth of the table")
    least = least_reader(reader)
    turn = turn_by_exponents(least, free_patterns(table.letters, table.depth, prime=table.prime), numbers)
    return turn[0] in least.yes


def turn_by_exponents(reader, patterns, exponents_of):
    """The turn, of the states of a turning reader, of the product of brackets raised to exponents."""
    turns = {}
    turn = still_turn(len(reader))
    for pattern, number in zip(patterns, exponents_of):
        leading, many = cut_in_equals(pattern)
        turn = joint_of(turn, raised_turn(bracket_turn(reader.moves, leading, turns), many * number))
    return turn


def bracket_turn(moves, leading, turns):
    """The turn of the bracket of a leading pattern; those of others can be known already."""
    for part in bracket_parts(leading):
        if part not in turns:
            if len(part) == 1:
                turns[part] = moves[part]
            else:
                one, other = cut_in_halves(part)
                turns[part] = commutator_of(turns[one], turns[other])
    return turns[leading]
