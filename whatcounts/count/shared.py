"""Counts of many patterns at a time, which share those of their beginnings."""

from whatcounts.base.arithmetic import binomials
from whatcounts.base.texts import text_order


def starts_of(patterns):
    """The tuple of all different beginnings of some patterns, in order."""
    starts = {}
    for pattern in patterns:
        for end in range(len(pattern) + 1):
            starts[pattern[:end]] = True
    return tuple(sorted(starts, key=text_order))


def parts_of(patterns):
    """The tuple of all different parts of some patterns, in order, the empty one among them."""
    parts = {"": True}
    for pattern in patterns:
        for start in range(len(pattern)):
            for end in range(start + 1, len(pattern) + 1):
                parts[pattern[start:end]] = True
    return tuple(sorted(parts, key=text_order))


def counts_in_text(starts, text):
    """The dict from patterns, of which each beginning is among them, in order, to their counts in a text."""
    place = {start: at for at, start in enumerate(starts)}
    steps = {letter: steps_of(place, letter) for letter in sorted(set(text))}
    counts = list(counts_in_nothing(starts))
    for letter in text:
        for at, ahead in steps[letter]:
            counts[at] = counts[at] + counts[ahead]
    return {start: counts[at] for start, at in place.items()}


def steps_of(place, letter):
    """For each pattern with the letter at its end, its place and the one of what is ahead of that letter."""
    # longer patterns first: each count grows by a shorter one's, as that one was before the letter came
    return [(at, place[start[:-1]]) for start, at in list(place.items())[::-1] if start[-1:] == letter]


def counts_in_runs(starts, runs):
    """The dict from patterns, of which each beginning is among them, in order, to their counts in a word."""
    place = {start: at for at, start in enumerate(starts)}
    chains = {letter: chains_of(place, letter) for letter, _ in runs}
    counts = list(counts_in_nothing(starts))
    for letter, exponent in runs:
        longest = max([len(chain) for chain in chains[letter]], default=1) - 1
        # behind a number from 0 on there are only zeros in its row of C(n, j)
        ways = binomials(exponent, longest if exponent < 0 else min(longest, exponent))
        behind = list(counts)
        for chain in chains[letter]:
            behind[chain[0]] = sum([way * counts[at] for way, at in zip(ways, chain)])
        counts = behind
    return {start: counts[at] for start, at in place.items()}


def chains_of(place, letter):
    """For each pattern with the letter at its end, its place, and the places of what is left when the letter is
    taken away from the end once, twice and so on.
    """
    chains = []
    for start in place:
        stretch = len(start) - len(start.rstrip(letter))
        if stretch > 0:
            chains.append([place[start[:len(start) - taken]] for taken in range(stretch + 1)])
    return chains


def counts_in_nothing(starts):
    """The list of the counts in the empty word."""
    return [1 if start == "" else 0 for start in starts]
