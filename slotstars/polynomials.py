"""Polynomials with whole coefficients, the constant first, and the remainders that stand for sums of roots of one."""

from math import gcd

from slotstars.wholes import primes_of


def zeros_of(order):
    """How many zeros the polynomial of the order has."""
    return len([power for power in range(order) if gcd(power, order) == 1])


def multiplied(first, second):
    """The product of two polynomials, as a list."""
    result = [0] * (len(first) + len(second) - 1)
    for low, left in enumerate(first):
        if left != 0:
            for high, right in enumerate(second):
                result[low + high] += left * right
    return result


def divided(numbers, divisor):
    """The lists of the quotient and the remainder by a polynomial with the leading coefficient 1."""
    degree = len(divisor) - 1
    # Most coefficients of the divisors here are 0: they are passed over once, not in each round.
    parts = [(place, part) for place, part in enumerate(divisor[:degree]) if part != 0]
    rest = list(numbers)
    quotient = [0] * (len(rest) - degree)
    for top in range(len(rest) - 1, degree - 1, -1):
        share = rest[top]
        if share != 0:
            low = top - degree
            quotient[low] = share
            for place, part in parts:
                rest[low + place] -= share * part
    remainder = rest[:degree] + [0] * (degree - len(rest))
    return quotient, remainder


def remainder_by(numbers, divisor):
    """The remainder by a polynomial with the leading coefficient 1, as a tuple of as many numbers as this has zeros."""
    _, remainder = divided(numbers, divisor)
    return tuple(remainder)


def stretched(numbers, factor):
    """The polynomial with x^factor in the place of x, as a list."""
    result = [0] * ((len(numbers) - 1) * factor + 1)
    for place, number in enumerate(numbers):
        result[place * factor] = number
    return result


def polynomial_of(order):
    """The polynomial of the order, as a list."""
    result = [-1, 1]
    done = 1
    for prime in primes_of(order):
        # The stretched polynomial has the zeros of the order done * prime and, if the prime is new, those of done.
        wider = stretched(result, prime)
        if done % prime == 0:
            result = wider
        else:
            result, _ = divided(wider, result)
        done *= prime
    return result


def product_of_orders(orders):
    """The product of the polynomials of some orders, as a list."""
    result = [1]
    for order in orders:
        result = multiplied(result, polynomial_of(order))
    return result


def reduced(order, numbers):
    """The numbers of the sum of the order that is the sum of numbers[k] * z^k."""
    rounds = [0] * order
    for power, number in enumerate(numbers):
        rounds[power % order] += number
    return remainder_by(rounds, polynomial_of(order))
