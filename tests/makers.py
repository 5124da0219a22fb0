"""Numbers, rows, phases and windings for the tests, and sums of roots of one as complex numbers."""

import cmath
from itertools import product

BIG = 10 ** 40 - 1


def root(order, power):
    """A power of the root of the order, as a complex number."""
    return cmath.exp(2j * cmath.pi * (power % order) / order)


def worth(number):
    """The sum of roots of one, as a complex number."""
    return sum(part * root(number[0], k) for k, part in enumerate(number[1]))


def divisors(number):
    """The divisors of a number, ascending."""
    return [k for k in range(1, number + 1) if number % k == 0]


def any_row(chance, slots, reach=5):
    """A row of so many slots."""
    return tuple(chance.randint(-reach, reach) for _ in range(slots))


def any_phase(chance, slots, reach=5):
    """A phase of so many slots."""
    row = any_row(chance, slots - 1, reach)
    return row + (-sum(row),)


def all_phases(slots, reach=1):
    """All phases of so many slots with no number beyond the reach."""
    return [row for row in product(range(-reach, reach + 1), repeat=slots) if sum(row) == 0]


RATES = [(1, 0), (2, 1), (3, 1), (3, 2), (4, 1), (4, 3), (5, 1), (5, 2), (5, 3), (5, 4), (6, 1), (6, 5)]
