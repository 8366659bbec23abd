"""Least readers, merges, and readers that come of sums."""

from whatcounts.base.checks import check_some_prime
from whatcounts.base.names import is_integer, is_text
from whatcounts.errors import InvalidNumber, InvalidOperation
from whatcounts.reader.readers import MAX_STATES, Reader, check_reader
from whatcounts.reader.walks import first_pair_texts, first_texts, numbered, rows_led
from whatcounts.sums.sums import check_sum
from whatcounts.tally.squares import unit_row
from whatcounts.tally.tallies import Tally


def least_reader(reader):
    """The least reader with the same answers."""
    check_reader(reader)
    kinds = kinds_of_states(reader)
    # the first text that leads to a kind leads to the first of its states that is reached
    first = {}
    for reached in first_texts(reader.moves, 0):
        first.setdefault(kinds[reached], reached)
    number = numbered(first)
    moves = {
        letter: tuple([number[kinds[row[state]]] for state in first.values()])
        for letter, row in reader.moves.items()
    }
    yes = [number[kind] for kind, state in first.items() if state in reader.yes]
    return Reader(reader.letters, moves, tuple(yes))


def kinds_of_states(reader):
    """The list that tells for each state a number, the same for those with the same answers from there on."""
    states = range(len(reader))
    kinds = [1 if state in reader.yes else 0 for state in states]
    many = 0
    while len(set(kinds)) > many:
        many = len(set(kinds))
        rows = [(kinds[state],) + tuple([kinds[row[state]] for row in reader.moves.values()]) for state in states]
        number = numbered(sorted(set(rows)))
        kinds = [number[row] for row in rows]
    return kinds


def parting(one, other):
    """The first text to which two readers give unlike answers, or `None`."""
    check_reader(one)
    check_reader(other)
    if one.letters != other.letters:
        raise InvalidOperation("the readers have unlike letters")
    texts = first_pair_texts(one.moves, other.moves, len(one) * len(other))
    for (left, right), text in texts.items():
        if (left in one.yes) != (right in other.yes):
            return text
    return None


def first_merge(reader):
    """The first merge of a reader, or `None`."""
    least = least_reader(reader)
    texts = list(first_texts(least.moves, 0).values())
    for letter, row in least.moves.items():
        for one in range(len(least)):
            for other in range(one + 1, len(least)):
                if row[one] == row[other]:
                    return letter, texts[one], texts[other]
    return None


def is_merge(reader, value):
    """Whether the value is a merge of a reader."""
    least = least_reader(reader)
    if not isinstance(value, tuple) or len(value) != 3:
        return False
    letter, one, other = value
    if not is_text(reader.letters, letter) or len(letter) != 1:
        return False
    if not is_text(reader.letters, one) or not is_text(reader.letters, other):
        return False
    left, right = least.led(0, one), least.led(0, other)
    row = least.moves[letter]
    return left != right and row[left] == row[right]


def is_turning(reader):
    """Whether a reader has no merge."""
    return first_merge(reader) is None


def answers(reader, *, prime=None):
    """A tally whose numbers are 1 at texts with the answer yes, and 0 at others."""
    check_reader(reader)
    check_some_prime(prime)
    many = len(reader)
    moves = {letter: tuple([unit_row(state, many) for state in row]) for letter, row in reader.moves.items()}
    last = tuple([1 if state in reader.yes else 0 for state in range(many)])
    return Tally(reader.letters, unit_row(0, many), moves, last, prime=prime)


def reader_where(total, rest):
    """The least reader that answers yes to the texts at which a sum with a prime has a rest."""
    check_sum(total)
    prime = total.prime
    if not is_integer(rest) or rest < 0 or (prime is not None and rest >= prime):
        raise InvalidNumber(rest)
    if prime is None:
        raise InvalidOperation("the sum is exact")
    sums, moves = sums_ahead(total)
    yes = [state for state, weights in enumerate(sums) if weights[0] == rest]
    return least_reader(Reader(total.letters, moves, tuple(yes)))


def sums_ahead(total):
    """The list of the different sums `total.ahead(text)`, by the order of the texts, each one told by its weights at
    all ends of patterns, from the empty one on; and the moves among them.
    """
    ends = numbered(ends_of(total.weights))
    steps = {letter: [ends.get(letter + end) for end in ends] for letter in total.letters}
    start = tuple([total.weights.get(end, 0) for end in ends])
    return rows_led(start, steps, total.prime, MAX_STATES)


def ends_of(patterns):
    """The list of the different ends of some patterns, the empty one first."""
    ends = {"": True}
    for pattern in patterns:
        for start in range(len(pattern)):
            ends[pattern[start:]] = True
    return list(ends)
