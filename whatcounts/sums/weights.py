"""Dicts from patterns to weights."""

from whatcounts.base.arithmetic import rest_of
from whatcounts.base.checks import check_most
from whatcounts.base.names import is_integer, is_pattern
from whatcounts.base.texts import text_order
from whatcounts.count.selections import selections
from whatcounts.count.shared import counts_in_text, starts_of


def are_weights(letters, value, degree):
    """Whether the value is a dict from patterns of at most so many letters to integers."""
    return isinstance(value, dict) and all([
        is_pattern(letters, pattern) and len(pattern) <= degree and is_integer(number)
        for pattern, number in value.items()
    ])


def kept_weights(weights, prime):
    """The weights that are not 0, or their rests that are not, in the order of the patterns."""
    rests = {pattern: rest_of(weights[pattern], prime) for pattern in sorted(weights, key=text_order)}
    return {pattern: number for pattern, number in rests.items() if number != 0}


def added_weights(one, other, times):
    """The weights of a sum and so many times another one."""
    weights = dict(one)
    for pattern, number in other.items():
        weights[pattern] = weights.get(pattern, 0) + times * number
    return weights


def turned_weights(weights):
    """The weights of the sum whose numbers are those at the texts turned round."""
    return {pattern[::-1]: number for pattern, number in weights.items()}


def weights_ahead(weights, text):
    """The weights of the sum whose numbers are those at texts with a text ahead of them."""
    counts = counts_in_text(starts_of(weights), text)
    found = {}
    for pattern, number in weights.items():
        for end in range(len(pattern) + 1):
            found[pattern[end:]] = found.get(pattern[end:], 0) + number * counts[pattern[:end]]
    return found


def weights_of_product(one, other, prime, most):
    """The weights that are not 0 of the product of two sums; an error if there are more than so many.

    For each pattern, the row tells how many overlays it is of a beginning of a pattern of the one and one of the
    other. The patterns are tried letter by letter, so that the error comes before very many are reckoned.
    """
    starts, other_starts = start_table(one), start_table(other)
    letters = sorted(set("".join(starts) + "".join(other_starts)))
    weights = {}
    todo = [("", {("", ""): 1})]
    while todo:
        pattern, row = todo.pop()
        products = [many * one.get(left, 0) * other.get(right, 0) for (left, right), many in row.items()]
        number = rest_of(sum(products), prime)
        if number != 0:
            weights[pattern] = number
            check_most(len(weights), most)
        for letter in letters:
            longer = kept_row(overlay_row(row, letter, starts, other_starts), prime)
            if longer:
                todo.append((pattern + letter, longer))
    return weights


def overlay_row(row, letter, starts, other_starts):
    """The row of a pattern with one letter more: it is one of the one, of the other, or of both."""
    longer = {}
    for (left, right), many in row.items():
        for pair in ((left + letter, right), (left, right + letter), (left + letter, right + letter)):
            if pair[0] in starts and pair[1] in other_starts:
                longer[pair] = longer.get(pair, 0) + many
    return longer


def weights_of_led(weights, words, prime, most):
    """The weights that are not 0 of the sum at texts with a text in the place of each letter; an error if there
    are more than so many.

    For each pattern, the row tells in how many ways a beginning of a pattern with a weight comes together of
    parts, one selected from the text of each letter, none of them empty.
    """
    steps = {letter: led_steps(start_table(weights), words[letter]) for letter in words}
    found = {}
    todo = [("", {"": 1})]
    while todo:
        pattern, row = todo.pop()
        number = rest_of(sum([many * weights.get(start, 0) for start, many in row.items()]), prime)
        if number != 0:
            found[pattern] = number
            check_most(len(found), most)
        for letter in words:
            longer = kept_row(led_row(row, steps[letter]), prime)
            if longer:
                todo.append((pattern + letter, longer))
    return found


def led_steps(starts, text):
    """The dict from beginnings to the longer ones which selections of a text make of them, each with its number."""
    parts = selections(text)
    steps = {start: [] for start in starts}
    for longer in starts:
        for end in range(len(longer)):
            if longer[end:] in parts:
                steps[longer[:end]].append((longer, parts[longer[end:]]))
    return steps


def led_row(row, steps):
    """The row of a pattern with one letter more, which makes these steps."""
    longer = {}
    for start, many in row.items():
        for end, ways in steps.get(start, ()):
            longer[end] = longer.get(end, 0) + many * ways
    return longer


def kept_row(row, prime):
    """The row without the numbers that are 0, or their rests."""
    return {key: rest_of(many, prime) for key, many in row.items() if rest_of(many, prime) != 0}


def start_table(weights):
    """The dict whose keys are the beginnings of the patterns with weights."""
    return {start: True for start in starts_of(weights)}
