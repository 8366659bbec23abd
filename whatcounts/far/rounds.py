"""What comes round when a text is repeated."""

from whatcounts.base.arithmetic import rest_of
from whatcounts.count.shared import counts_in_text, parts_of, starts_of
from whatcounts.reader.walks import numbered


def newton_numbers(weights, text, prime):
    """The list of the numbers that tell those of a sum at so many of a text, without zeros at its end."""
    starts = starts_of(weights)
    counts = counts_in_text(parts_of(weights), text)
    # in how many ways a beginning of a pattern comes apart into so many parts, each selected from one text
    ways = {start: 1 if start == "" else 0 for start in starts}
    numbers = []
    for _ in range(max([len(pattern) for pattern in weights], default=-1) + 1):
        numbers.append(rest_of(sum([number * ways[pattern] for pattern, number in weights.items()]), prime))
        ways = {
            start: sum([ways[start[:end]] * counts[start[end:]] for end in range(len(start))])
            for start in starts
        }
    while numbers and numbers[-1] == 0:
        numbers.pop()
    return numbers


def round_of_answers(led, yes):
    """The start and the period of the answers of the states that come one behind the other, by where each is led."""
    states = [0]
    while led[states[-1]] not in states:
        states.append(led[states[-1]])
    start = numbered(states)[led[states[-1]]]
    answers = [state in yes for state in states]
    period = least_period(answers[start:])
    # ahead of the states that come round the answers can do so already
    while start > 0 and answers[start - 1] == answers[start - 1 + period]:
        start = start - 1
    return start, period


def least_period(row):
    """The least number of places after which a row comes round, when it is repeated again and again."""
    for size in range(1, len(row)):
        if len(row) % size == 0 and row[size:] + row[:size] == row:
            return size
    return len(row)
