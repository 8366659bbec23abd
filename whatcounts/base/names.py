"""What integers, names, letters, texts, patterns and primes are."""

from whatcounts.errors import InvalidLetters

MAX_NAME = 8
MAX_DIGITS = 200
MAX_TEXT = 4000
MAX_PATTERN = 400
MAX_DEPTH = 5
PRIMES = (2, 3, 5, 7)

ALPHABET = "abcdefghijklmnopqrstuvwxyz"
MAX_LETTERS = 3
LEAST_TOO_LONG = (10 ** 50) ** 4


def is_integer(value):
    """Whether the value is an integer that can be passed."""
    return isinstance(value, int) and not isinstance(value, bool) and abs(value) < LEAST_TOO_LONG


def is_name(value):
    """Whether the value is a name."""
    return has_only(value, ALPHABET, MAX_NAME) and value != ""


def is_letters(value):
    """Whether the value tells letters."""
    return has_only(value, ALPHABET, MAX_LETTERS) and value != "" and list(value) == sorted(set(value))


def is_text(letters, value):
    """Whether the value is a text of these letters."""
    check_letters(letters)
    return has_only(value, letters, MAX_TEXT)


def is_signed(letters, value):
    """Whether the value is a signed text of these letters."""
    check_letters(letters)
    return has_only(value, letters + letters.upper(), MAX_TEXT)


def is_pattern(letters, value):
    """Whether the value is a pattern of these letters."""
    check_letters(letters)
    return has_only(value, letters, MAX_PATTERN)


def is_prime(value):
    """Whether the value is one of the four primes."""
    return is_integer(value) and value in PRIMES


def check_letters(value):
    """Raise an error unless the value tells letters."""
    if not is_letters(value):
        raise InvalidLetters("letters are one to three different letters a to z, ascending")


def has_only(value, signs, most):
    """Whether the value is a string of at most so many of these signs."""
    # stripping takes all signs away only if there is no other one
    return isinstance(value, str) and len(value) <= most and value.strip(signs) == ""
