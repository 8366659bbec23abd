"""Parts of groups for primes, and clashes."""

from whatcounts.base.checks import check_prime
from whatcounts.base.names import is_text
from whatcounts.errors import InvalidOperation
from whatcounts.group.moves import do_commute, joint_of, order_of, raised_turn, still_turn
from whatcounts.group.spans import TurnSpan
from whatcounts.group.turns import MAX_TURNS, check_group
from whatcounts.word.words import check_word


def prime_parts(group):
    """The dict from the primes that divide the number of turns to the parts."""
    check_group(group)
    turns = group.all_turns()
    primes = {turn: prime_of(order_of(turn)) for turn in turns}
    return {
        prime: tuple([turn for turn in turns if primes[turn] in (1, prime)])
        for prime in prime_divisors(len(turns))
    }


def prime_divisors(number):
    """The list of the primes that divide a number, ascending."""
    primes = []
    left = number
    divisor = 2
    while left > 1:
        if left % divisor == 0:
            primes.append(divisor)
            while left % divisor == 0:
                left = left // divisor
        divisor = divisor + 1
    return primes


def prime_of(number):
    """The prime that a number is a power of, 1 for the number 1, or `None`."""
    primes = prime_divisors(number)
    if len(primes) > 1:
        return None
    return primes[0] if primes else 1


def comes_apart(group):
    """Whether each turn of one part commutes with each turn of each other part."""
    many = 1
    for part in prime_parts(group).values():
        many = many * len(part)
    # a part has at least as many turns as the greatest power of its prime that divides the number of all turns;
    # all have just as many exactly if they are groups that commute with one another
    return many == len(group.all_turns())


def prime_part(group, word, prime):
    """The turn of the part for a prime that stands in the product for the turn of a word."""
    check_group(group)
    check_word(word)
    check_prime(prime)
    turn = group.turn(word)
    if not comes_apart(group):
        raise InvalidOperation("the group does not come apart")
    return turn_in_part(turn, prime)


def turn_in_part(turn, prime):
    """The turn of the part for a prime that stands in the product for a turn, if the group comes apart."""
    order = order_of(turn)
    power = 1
    while order % (power * prime) == 0:
        power = power * prime
    # times that leave the part for the prime as it is, and lead the other parts back
    times = order // power
    while times % power != 1 % power:
        times = times + order // power
    return raised_turn(turn, times)


def first_clash(group):
    """The first clash of a group, or `None`."""
    check_group(group)
    texts = group.turn_texts()
    primes = {turn: prime_of(order_of(turn)) for turn in texts}
    others = {prime: turns_of_others(primes, prime) for prime in prime_divisors(len(texts))}
    for turn, text in texts.items():
        prime = primes[turn]
        if prime in others and not all([do_commute(turn, other) for other in others[prime]]):
            return text, first_unlike(texts, primes, turn)
    return None


def turns_of_others(primes, prime):
    """The list of some turns of the parts for other primes, of which all of these are made."""
    points = max([len(turn) for turn in primes])
    span = TurnSpan(points, MAX_TURNS)
    for turn, other in primes.items():
        if other not in (None, 1, prime):
            span.put(turn)
    return span.kept


def first_unlike(texts, primes, turn):
    """The first text whose turn is of another part than a turn and does not commute with it."""
    for other, text in texts.items():
        if primes[other] not in (None, 1, primes[turn]) and not do_commute(turn, other):
            return text
    return None


def is_clash(group, value):
    """Whether the value is a clash of a group."""
    check_group(group)
    group.turn_texts()
    if not isinstance(value, tuple) or len(value) != 2:
        return False
    if not is_text(group.letters, value[0]) or not is_text(group.letters, value[1]):
        return False
    one, other = [turn_of_text(group, text) for text in value]
    primes = [prime_of(order_of(one)), prime_of(order_of(other))]
    if None in primes or 1 in primes or primes[0] == primes[1]:
        return False
    return not do_commute(one, other)


def turn_of_text(group, text):
    """The turn of a text."""
    moves = group.moves
    turn = still_turn(len(group))
    for letter in text:
        turn = joint_of(turn, moves[letter])
    return turn
