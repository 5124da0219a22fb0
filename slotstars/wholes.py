"""Whole numbers: what counts as one, and how they divide."""

from math import gcd

from slotstars.errors import InvalidNumber


def is_whole(value):
    """Whether it is an integer other than True and False."""
    return isinstance(value, int) and not isinstance(value, bool)


def is_within(value, least, greatest):
    """Whether it is a whole number between two, these included."""
    return is_whole(value) and least <= value <= greatest


def are_wholes(value):
    """Whether it is a tuple of whole numbers."""
    return isinstance(value, tuple) and all(is_whole(part) for part in value)


def check_number(given):
    """Raises InvalidNumber for what is no whole number."""
    if not is_whole(given):
        raise InvalidNumber(given)


def check_within(given, least, greatest):
    """Raises InvalidNumber for what is no whole number between two, these included."""
    if not is_within(given, least, greatest):
        raise InvalidNumber(given)


def divisors_of(number):
    """The ascending tuple of the divisors of a number from 1 on."""
    return tuple(part for part in range(1, number + 1) if number % part == 0)


def primes_of(number):
    """The ascending list of the primes whose product a number from 1 on is."""
    primes = []
    prime = 2
    while number > 1:
        if number % prime == 0:
            primes.append(prime)
            number //= prime
        else:
            prime += 1
    return primes


def powered(number, times):
    """The product of so many times the number."""
    result = 1
    for _ in range(times):
        result *= number
    return result


def lowest_terms(above, below):
    """The fraction of two whole numbers, the lower one above 0, without a common divisor above 1."""
    common = gcd(above, below)
    return (above // common, below // common)
