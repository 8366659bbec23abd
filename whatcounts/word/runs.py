"""Rows of runs, which tell words."""


def joined_runs(pairs):
    """The runs that are left when neighbours with the same letter are put together."""
    runs = []
    for letter, exponent in pairs:
        together = exponent
        if runs and runs[-1][0] == letter:
            together = exponent + runs.pop()[1]
        if together != 0:
            runs.append((letter, together))
    return tuple(runs)


def undone_runs(runs):
    """The runs of the word undone."""
    return tuple([(letter, -exponent) for letter, exponent in runs[::-1]])


def bracket_runs(one, other):
    """The runs of the bracket of two words."""
    return joined_runs(one + other + undone_runs(one) + undone_runs(other))


def runs_of_signs(signs):
    """The runs of the word of a signed text."""
    return joined_runs([(sign.lower(), 1 if sign.islower() else -1) for sign in signs])


def signs_of_runs(runs):
    """The signed text of runs."""
    return "".join([letter * exponent if exponent > 0 else letter.upper() * -exponent for letter, exponent in runs])
