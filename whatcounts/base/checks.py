"""Checks of arguments, which raise the errors that the document names."""

from whatcounts.base.names import is_integer, is_pattern, is_prime, is_signed, is_text
from whatcounts.errors import InvalidNumber, InvalidPattern, InvalidText, TooMany


def check_text(letters, value):
    """Raise an error unless the value is a text of these letters."""
    if not is_text(letters, value):
        raise InvalidText(f"a text has at most 4000 of the letters {letters}")


def check_signed(letters, value):
    """Raise an error unless the value is a signed text of these letters."""
    if not is_signed(letters, value):
        raise InvalidText(f"a signed text has at most 4000 of the letters {letters} and their capitals")


def check_pattern(letters, value):
    """Raise an error unless the value is a pattern of these letters."""
    if not is_pattern(letters, value):
        raise InvalidPattern(f"a pattern has at most 400 of the letters {letters}")


def check_integer(value):
    """Raise an error unless the value is an integer that can be passed."""
    if not is_integer(value):
        raise InvalidNumber(value)


def check_between(value, least, most):
    """Raise an error unless the value is an integer from the least one to the greatest one."""
    if not is_integer(value) or value < least or value > most:
        raise InvalidNumber(value)


def check_prime(value):
    """Raise an error unless the value is one of the four primes."""
    if not is_prime(value):
        raise InvalidNumber(value)


def check_some_prime(value):
    """Raise an error unless the value is `None` or one of the four primes."""
    if value is not None:
        check_prime(value)


def check_most(many, limit):
    """Raise an error if there are more than a limit allows."""
    if many > limit:
        raise TooMany(limit)
