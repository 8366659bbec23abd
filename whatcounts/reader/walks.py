"""States to which texts lead, and the texts that lead on to an answer."""

from whatcounts.base.checks import check_most


def first_texts(moves, start):
    """The dict from each state to which texts lead on from one to the first such text, in the order of the texts."""
    texts = {start: ""}
    found = [start]
    at = 0
    while at < len(found):
        for letter in moves:
            state = moves[letter][found[at]]
            if state not in texts:
                texts[state] = texts[found[at]] + letter
                found.append(state)
        at = at + 1
    return texts


def first_pair_texts(one, other, most):
    """The dict from each pair of states to which texts lead both from 0 on to the first such text, in the order of
    the texts; it ends when there are more than so many pairs.
    """
    texts = {(0, 0): ""}
    found = [(0, 0)]
    at = 0
    while at < len(found) and len(found) <= most:
        left, right = found[at]
        for letter in one:
            pair = (one[letter][left], other[letter][right])
            if pair not in texts:
                texts[pair] = texts[(left, right)] + letter
                found.append(pair)
        at = at + 1
    return texts


def numbered(states):
    """The dict from each of some states to its number among them."""
    return {state: number for number, state in enumerate(states)}


def hopes_of(moves, yes, many, size):
    """For 0, 1, .., so many letters, the tuple that tells for each state whether some text of as many letters leads
    it to yes.
    """
    hopes = [tuple([state in yes for state in range(many)])]
    for _ in range(size):
        latest = hopes[-1]
        hopes.append(tuple([any([latest[row[state]] for row in moves.values()]) for state in range(many)]))
    return hopes


def first_hope(moves, hopes, state, size):
    """The first text of a size that leads a state to yes, or `None`."""
    if not hopes[size][state]:
        return None
    signs = []
    at = state
    for left in range(size - 1, -1, -1):
        letter = [sign for sign in moves if hopes[left][moves[sign][at]]][0]
        signs.append(letter)
        at = moves[letter][at]
    return "".join(signs)


def next_hope(moves, hopes, text):
    """The text that comes next to one, of those of its size that lead 0 to yes, or `None`."""
    states = [0]
    for letter in text:
        states.append(moves[letter][states[-1]])
    for at in range(len(text) - 1, -1, -1):
        left = len(text) - at - 1
        for letter in moves:
            state = moves[letter][states[at]]
            if letter > text[at] and hopes[left][state]:
                return text[:at] + letter + first_hope(moves, hopes, state, left)
    return None


def rows_led(start, steps, prime, most):
    """The list of the rows of rests to which texts lead one, by the order of the texts, and the moves among them; an
    error if there are more than so many.

    The step of a letter tells for each place the one whose number is put to it, or `None`.
    """
    found = [start]
    number = {start: 0}
    moves = {letter: [] for letter in steps}
    at = 0
    while at < len(found):
        for letter, step in steps.items():
            row = row_led(found[at], step, prime)
            if row not in number:
                number[row] = len(found)
                found.append(row)
                check_most(len(found), most)
            moves[letter].append(number[row])
        at = at + 1
    return found, {letter: tuple(row) for letter, row in moves.items()}


def row_led(row, step, prime):
    """The row to which a letter leads one."""
    return tuple([number if put is None else (number + row[put]) % prime for number, put in zip(row, step)])
