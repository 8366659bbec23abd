"""Numbers that are exact, or rests modulo a prime."""


def rest_of(number, prime):
    """The number itself if there is no prime, otherwise its rest."""
    return number if prime is None else number % prime


def power_of(number, exponent):
    """The product of so many of a number."""
    power = 1
    for _ in range(exponent):
        power = power * number
    return power


def binomials(number, size):
    """The tuple of C(number, 0), .., C(number, size), for any integer."""
    found = [1]
    for below in range(size):
        # the product is always divided without a rest, also if the number is less than 0
        found.append(found[-1] * (number - below) // (below + 1))
    return tuple(found)


def prime_words(prime):
    """The end of what `str` tells of an object with a prime, or without one."""
    return "" if prime is None else f", modulo {prime}"
