"""Balance: whether each phase takes up a root of one times what the phase before it takes up."""

from math import gcd, lcm

from slotstars.errors import InvalidRate, Unlike
from slotstars.harmonics import order_of, takes_up
from slotstars.lattices import check_orders, phase_with
from slotstars.roots import led_up, times_root
from slotstars.rows import check_phases, check_slots, check_winding, scaled_row, turned_row
from slotstars.wholes import are_wholes, check_number, divisors_of, is_within

GREATEST_RATE = 6


def is_rate(value):
    """Whether it is a rate, whatever it is."""
    if not (are_wholes(value) and len(value) == 2 and is_within(value[0], 1, GREATEST_RATE)):
        return False
    return 0 <= value[1] < value[0] and gcd(value[0], value[1]) == 1


def check_rate(rate):
    """Raises InvalidRate for what is no rate."""
    if not is_rate(rate):
        raise InvalidRate(rate)


def check_same_shape(winding, other):
    """Raises Unlike for a winding with another number of slots or of phases than the first one."""
    if len(winding) != len(other) or len(winding[0]) != len(other[0]):
        raise Unlike(other)


def rate_of_turn(slots, harmonic, turn, sign):
    """The rate that stands for sign * z^(harmonic * turn); None if this root has an order above 6."""
    # Counted in halves of the steps of z, the sign -1 is as many of them as there are slots.
    halves = 2 * slots
    place = 2 * harmonic * turn % halves
    if sign == -1:
        place = (place + slots) % halves
    common = gcd(place, halves)
    if halves // common > GREATEST_RATE:
        return None
    return (halves // common, place // common)


def _possible_rates(order):
    """The rates whose roots, or their opposites, are roots of one of the order of a harmonic."""
    # No other root leads from one sum in the field of these roots to another one there.
    return [
        (root_order, turn)
        for root_order in range(1, GREATEST_RATE + 1) if _fits(root_order, order)
        for turn in range(root_order) if gcd(root_order, turn) == 1
    ]


def _fits(root_order, order):
    return order % root_order == 0 or (order % 2 == 1 and 2 * order % root_order == 0)


def _follows(number, other, rate):
    """Whether the other sum is the first one times the root of the rate."""
    root_order, turn = rate
    common = lcm(number[0], root_order)
    return led_up(other, common) == times_root(led_up(number, common), common // root_order * turn)


def _rate_of_sums(sums, order):
    """The rate with which these sums, taken up of a harmonic of the order, follow one another; None without one."""
    if not any(sums[0][1]):
        return None
    if len(sums) == 1:
        return (1, 0)
    for rate in _possible_rates(order):
        if all(_follows(left, right, rate) for left, right in zip(sums, sums[1:])):
            return rate
    return None


def rate_at(winding, harmonic):
    """The rate with which the winding is balanced at the harmonic; None if there is none."""
    check_winding(winding)
    check_number(harmonic)
    sums = [takes_up(phase, harmonic) for phase in winding]
    return _rate_of_sums(sums, order_of(len(winding[0]), harmonic))


def is_balanced(winding, harmonic, rate):
    """Whether the winding is balanced at the harmonic with the rate."""
    check_winding(winding)
    check_number(harmonic)
    check_rate(rate)
    return rate_at(winding, harmonic) == rate


def unbalancing_harmonic(winding):
    """The least harmonic from 1 on that unbalances the winding; None if there is none."""
    check_winding(winding)
    slots = len(winding[0])
    # All harmonics of one order unbalance or do not, and the least one of each order divides Z.
    for harmonic in divisors_of(slots):
        sums = [takes_up(phase, harmonic) for phase in winding]
        there = any(any(numbers) for _, numbers in sums)
        if there and _rate_of_sums(sums, order_of(slots, harmonic)) is None:
            return harmonic
    return None


def can_balance(slots, phases, harmonic, rate):
    """Whether some winding of so many slots and phases is balanced at the harmonic with the rate."""
    check_slots(slots)
    check_phases(phases)
    check_number(harmonic)
    check_rate(rate)
    order = order_of(slots, harmonic)
    if order == 1:
        return False
    if phases == 1:
        return rate[0] == 1
    return _fits(rate[0], order)


def balanced_winding(slots, phases, harmonic, rate, barred=()):
    """A winding that is balanced so and takes up nothing of the barred orders; None if there is none."""
    check_slots(slots)
    check_phases(phases)
    check_number(harmonic)
    check_rate(rate)
    check_orders(barred, slots)
    first = phase_with(slots, harmonic, barred)
    if first is None or not can_balance(slots, phases, harmonic, rate):
        return None
    turn, sign = turn_with(slots, harmonic, rate)
    winding = [first]
    for _ in range(phases - 1):
        winding.append(scaled_row(turned_row(winding[-1], turn), sign))
    return tuple(winding)


def turn_with(slots, harmonic, rate):
    """A turn and a sign that make the root of the rate of what is taken up of the harmonic; None if there are none."""
    for sign in (1, -1):
        for turn in range(slots):
            if rate_of_turn(slots, harmonic, turn, sign) == rate:
                return turn, sign
    return None
