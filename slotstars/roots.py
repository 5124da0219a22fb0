"""Sums of roots of one: pairs of an order and of the numbers that stand before the powers of its root."""

from math import gcd

from slotstars.cosines import near_cosines
from slotstars.errors import (
    InvalidFraction, InvalidNumber, InvalidNumbers, InvalidOrder, InvalidSum, NoDivisor, NoMultiple, NotReal, Unlike,
)
from slotstars.polynomials import multiplied, polynomial_of, reduced, stretched, zeros_of
from slotstars.wholes import are_wholes, check_number, is_whole, is_within, primes_of

GREATEST_ORDER = 360
MOST_NUMBERS = 720


def is_order(value):
    """Whether it is an order of sums."""
    return is_within(value, 1, GREATEST_ORDER)


def is_sum(value):
    """Whether it is a sum, whatever it is."""
    if not (isinstance(value, tuple) and len(value) == 2 and is_order(value[0])):
        return False
    return are_wholes(value[1]) and len(value[1]) == zeros_of(value[0])


def is_fraction(value):
    """Whether it is a reduced fraction, whatever it is."""
    return are_wholes(value) and len(value) == 2 and value[1] > 0 and gcd(value[0], value[1]) == 1


def check_order(order):
    """Raises InvalidOrder for what is no order of sums."""
    if not is_order(order):
        raise InvalidOrder(order)


def check_sum(number):
    """Raises InvalidSum for what is no sum."""
    if not is_sum(number):
        raise InvalidSum(number)


def check_two_sums(number, other):
    """Raises InvalidSum for what is no sum, and Unlike for sums of unlike orders."""
    check_sum(number)
    check_sum(other)
    if number[0] != other[0]:
        raise Unlike(other)


def check_fraction(fraction):
    """Raises InvalidFraction for what is no reduced fraction."""
    if not is_fraction(fraction):
        raise InvalidFraction(fraction)


def check_real(number):
    """Raises NotReal for a sum that is not real."""
    if not is_real(number):
        raise NotReal(number)


def orders_polynomial(order):
    """The polynomial of the order."""
    check_order(order)
    return tuple(polynomial_of(order))


def sum_of(order, numbers):
    """The sum of all numbers[k] * z^k."""
    check_order(order)
    if not (are_wholes(numbers) and len(numbers) <= MOST_NUMBERS):
        raise InvalidNumbers(numbers)
    return (order, reduced(order, numbers))


def added(number, other):
    """The first sum and the other one."""
    check_two_sums(number, other)
    return (number[0], tuple(left + right for left, right in zip(number[1], other[1])))


def subtracted(number, other):
    """The first sum less the other one."""
    check_two_sums(number, other)
    return (number[0], tuple(left - right for left, right in zip(number[1], other[1])))


def product(number, other):
    """The product of two sums."""
    check_two_sums(number, other)
    return (number[0], reduced(number[0], multiplied(number[1], other[1])))


def conjugate(number):
    """The sum with 1 / z in the place of z."""
    check_sum(number)
    return _with_power(number, -1)


def times_root(number, power):
    """The sum times z^power."""
    check_sum(number)
    check_number(power)
    order = number[0]
    return (order, reduced(order, [0] * (power % order) + list(number[1])))


def changed(number, power):
    """The sum with z^power in the place of z."""
    check_sum(number)
    if not is_whole(power) or gcd(power, number[0]) > 1:
        raise InvalidNumber(power)
    return _with_power(number, power)


def _with_power(number, power):
    order = number[0]
    rounds = [0] * order
    for place, part in enumerate(number[1]):
        rounds[place * power % order] += part
    return (order, reduced(order, rounds))


def led_up(number, order):
    """The same number as a sum of a multiple of its order."""
    check_sum(number)
    check_order(order)
    if order % number[0] != 0:
        raise NoMultiple(order)
    return (order, reduced(order, stretched(number[1], order // number[0])))


def led_down(number, order):
    """The same number as a sum of a divisor of its order; None if it is none."""
    check_sum(number)
    check_order(order)
    if number[0] % order != 0:
        raise NoDivisor(order)
    here, numbers = number
    for prime in primes_of(here // order):
        numbers = _lowered(here, numbers, prime)
        if numbers is None:
            return None
        here //= prime
    return (order, numbers)


def _lowered(order, numbers, prime):
    """The numbers of the same sum of the order divided by the prime; None if it is no such sum."""
    below = order // prime
    if below % prime == 0:
        # Then the powers of z below the prime are a base over the sums of the lower order.
        if any(part != 0 for place, part in enumerate(numbers) if place % prime != 0):
            return None
        return tuple(numbers[::prime])
    # Otherwise each root of the order is one of the prime times one of the lower order, and the sum of all roots of
    # the prime is the only bond between these.
    rounds = list(numbers) + [0] * (order - len(numbers))
    parts = [
        reduced(below, [rounds[(turn * below + place * prime) % order] for place in range(below)])
        for turn in range(prime)
    ]
    if any(part != parts[1] for part in parts[2:]):
        return None
    return tuple(left - right for left, right in zip(parts[0], parts[1]))


def is_real(number):
    """Whether the sum is its own conjugate."""
    return conjugate(number) == number


def size_of(number):
    """The product of the sum with its conjugate."""
    return product(number, conjugate(number))


def sign_of(number):
    """The sign, 1, 0 or -1, of a real sum."""
    check_sum(number)
    check_real(number)
    return _sign(number)


def compare_real(number, other):
    """The sign of the first real sum less the other one."""
    check_sum(number)
    check_sum(other)
    check_real(number)
    check_real(other)
    return _sign(subtracted(number, other))


def compare_to(number, fraction):
    """The sign of the real sum less the fraction."""
    check_sum(number)
    check_fraction(fraction)
    check_real(number)
    above, below = fraction
    first, *rest = number[1]
    return _sign((number[0], (first * below - above, *[part * below for part in rest])))


def _sign(number):
    order, numbers = number
    reach = sum(abs(part) for part in numbers)
    if reach == 0:
        return 0
    # A sum with some number other than 0 is not 0, so that it shows its sign as soon as the bounds are near enough.
    bits = 64 + reach.bit_length()
    while True:
        cosines = near_cosines(order, len(numbers), bits)
        total = sum(part * cosine for part, cosine in zip(numbers, cosines))
        if abs(total) >= 2 * reach:
            return 1 if total > 0 else -1
        bits *= 2
