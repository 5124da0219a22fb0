"""Harmonics: what rows take up of them, which are there, and where two rows differ in them."""

from math import gcd

from slotstars.polynomials import polynomial_of, reduced, remainder_by
from slotstars.roots import compare_real, size_of
from slotstars.rows import check_row, check_same_slots, check_slots, check_two_rows, differences_of
from slotstars.wholes import check_number, divisors_of


def order_of(slots, harmonic):
    """The order of the harmonic."""
    check_slots(slots)
    check_number(harmonic)
    return slots // gcd(harmonic, slots)


def has_order(row, order):
    """Whether the harmonics of an order, a divisor of the number of slots, are there."""
    return any(number != 0 for number in remainder_by(row, polynomial_of(order)))


def takes_up(row, harmonic):
    """What the row takes up of the harmonic, a sum of the order Z."""
    check_row(row)
    check_number(harmonic)
    slots = len(row)
    rounds = [0] * slots
    for slot, number in enumerate(row):
        rounds[slot * harmonic % slots] += number
    return (slots, reduced(slots, rounds))


def is_there(row, harmonic):
    """Whether the row takes up something of the harmonic."""
    check_row(row)
    check_number(harmonic)
    return has_order(row, order_of(len(row), harmonic))


def orders_there(row):
    """The orders of all harmonics that are there."""
    check_row(row)
    return tuple(order for order in divisors_of(len(row)) if has_order(row, order))


def orders_gone(row):
    """The orders of all harmonics that are not there."""
    check_row(row)
    return tuple(order for order in divisors_of(len(row)) if not has_order(row, order))


def size_at(row, harmonic):
    """The size of what the row takes up of the harmonic."""
    return size_of(takes_up(row, harmonic))


def compare_sizes(row, harmonic, other, twin):
    """The sign of the size of the row at the harmonic less that of the other row at the twin."""
    check_row(row)
    check_number(harmonic)
    check_row(other)
    check_number(twin)
    check_same_slots(row, other)
    return compare_real(size_at(row, harmonic), size_at(other, twin))


def same_sizes(row, other):
    """Whether the sizes of both rows are the same at all harmonics."""
    check_two_rows(row, other)
    return differences_of(row) == differences_of(other)


def parting_harmonic(row, other):
    """The least harmonic from 0 on at which both rows take up unlike sums; None if they are equal."""
    check_two_rows(row, other)
    for harmonic in range(len(row)):
        if takes_up(row, harmonic) != takes_up(other, harmonic):
            return harmonic
    return None


def parting_size(row, other):
    """The least harmonic from 0 on at which the sizes of both rows are unlike; None if there is none."""
    check_two_rows(row, other)
    for harmonic in range(len(row)):
        if size_at(row, harmonic) != size_at(other, harmonic):
            return harmonic
    return None
