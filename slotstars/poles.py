"""Joinings of groups: those that are balanced at a harmonic, the orders at which there are some, the nearest one."""

from math import gcd

from slotstars.balance import can_balance, check_rate, turn_with
from slotstars.errors import InvalidJoining, TooMany
from slotstars.harmonics import order_of, takes_up
from slotstars.roots import led_down, times_root
from slotstars.rows import check_phases
from slotstars.ways import check_groups
from slotstars.wholes import are_wholes, check_number, check_within, divisors_of, is_within, powered

MOST_GROUPS = 6
MOST_JOININGS = 46656
GREATEST_ROOT = 6


def _is_place(value, phases):
    """Whether it is a pair of a phase that is there and a sign."""
    return are_wholes(value) and len(value) == 2 and is_within(value[0], 0, phases - 1) and value[1] in (-1, 1)


def check_joining(joining, many, phases):
    """Raises InvalidJoining for what is no joining of so many groups for so many phases."""
    if not (isinstance(joining, tuple) and len(joining) == many and all(_is_place(pair, phases) for pair in joining)):
        raise InvalidJoining(joining)


def check_few_joinings(groups, phases):
    """Raises TooMany for groups with more joinings than can be gone through."""
    many = powered(2 * phases, len(groups))
    if many > MOST_JOININGS:
        raise TooMany(many)


def joined(groups, phases, joining):
    """The winding that the joining makes of the groups."""
    check_groups(groups, MOST_GROUPS)
    check_phases(phases)
    check_joining(joining, len(groups), phases)
    winding = [[0] * len(groups[0]) for _ in range(phases)]
    for group, (phase, sign) in zip(groups, joining):
        for slot, number in enumerate(group):
            winding[phase][slot] += sign * number
    return tuple(tuple(row) for row in winding)


def joinings_for(groups, phases, harmonic, rate):
    """The ascending tuple of the joinings that are balanced so, with the sign 1 for the first group."""
    check_groups(groups, MOST_GROUPS)
    check_phases(phases)
    check_number(harmonic)
    check_rate(rate)
    check_few_joinings(groups, phases)
    return tuple(_balanced_joinings(groups, phases, harmonic, rate))


def orders_joined(groups, phases, root_order):
    """The orders at whose harmonics some joining is balanced with a rate of this order."""
    check_groups(groups, MOST_GROUPS)
    check_phases(phases)
    check_within(root_order, 1, GREATEST_ROOT)
    check_few_joinings(groups, phases)
    rates = [(root_order, turn) for turn in range(root_order) if gcd(root_order, turn) == 1]
    return tuple(order for order in divisors_of(len(groups[0])) if _some_joining(groups, phases, order, rates))


def _some_joining(groups, phases, order, rates):
    """Whether some joining is balanced with one of the rates at the harmonics of the order."""
    harmonic = len(groups[0]) // order
    return any(len(_balanced_joinings(groups, phases, harmonic, rate)) > 0 for rate in rates)


def nearest_joining(groups, phases, joining, harmonic, rate):
    """A joining balanced so that differs from the told one for the fewest groups; None if none is balanced so."""
    check_groups(groups, MOST_GROUPS)
    check_phases(phases)
    check_joining(joining, len(groups), phases)
    check_number(harmonic)
    check_rate(rate)
    check_few_joinings(groups, phases)
    nearest = None
    fewest = len(groups) + 1
    for found in _balanced_joinings(groups, phases, harmonic, rate):
        for change in (1, -1):
            other = tuple((phase, change * sign) for phase, sign in found)
            unlike = len([pair for pair, told in zip(other, joining) if pair != told])
            if unlike < fewest:
                nearest, fewest = other, unlike
    return nearest


def _balanced_joinings(groups, phases, harmonic, rate):
    """The ascending list of the joinings that are balanced so, with the sign 1 for the first group."""
    if not can_balance(len(groups[0]), phases, harmonic, rate):
        return []
    found = [((), (0,) * phases)]
    signs = (1,)
    for marks in _marks(groups, phases, harmonic, rate):
        found = [
            ((*joining, (phase, sign)), (*totals[:phase], totals[phase] + sign * mark, *totals[phase + 1:]))
            for joining, totals in found for phase, mark in enumerate(marks) for sign in signs
        ]
        signs = (-1, 1)
    return [joining for joining, totals in found if totals[0] != 0 and totals == totals[:1] * phases]


def _marks(groups, phases, harmonic, rate):
    """For each group a list with a number for each phase: what the group takes up, turned back to the first phase.

    A winding is balanced so exactly if these numbers, with their signs, add up to the same in all phases, but not to 0.
    """
    slots = len(groups[0])
    order = order_of(slots, harmonic)
    turn, sign = turn_with(slots, harmonic, rate)
    back = - turn * (harmonic // gcd(harmonic, slots))
    sums = [led_down(takes_up(group, harmonic), order) for group in groups]
    rows = [_turned_back(number, phases, back, sign) for number in sums]
    # One number for a whole sum makes the search fast. No total of parts reaches the width, so that unlike sums stay
    # unlike numbers.
    width = sum(max(abs(part) for numbers in row for part in numbers) for row in rows).bit_length()
    return [[_packed(numbers, width) for numbers in row] for row in rows]


def _turned_back(number, phases, back, sign):
    """The numbers of the sum for each phase: each time multiplied by the sign and by the power of the root."""
    rows = []
    for _ in range(phases):
        rows.append(number[1])
        order, numbers = times_root(number, back)
        number = (order, tuple(sign * part for part in numbers))
    return rows


def _packed(numbers, width):
    """One whole number for several: each in its own place, so many bits behind the one before it."""
    total = 0
    for number in reversed(numbers):
        total = (total << width) + number
    return total
