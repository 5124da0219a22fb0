"""Windings that are alike for all currents of a kind, at all harmonics or at one."""

from math import lcm

from slotstars.balance import check_same_shape, is_rate
from slotstars.errors import InvalidCurrents
from slotstars.harmonics import is_there
from slotstars.polynomials import polynomial_of, reduced, remainder_by
from slotstars.rows import added_rows, check_winding, scaled_row, turned_row
from slotstars.wholes import check_number


def _is_plain(value):
    return isinstance(value, str) and value in ("any", "closed")


def is_currents(value):
    """Whether it is a kind of currents, whatever it is."""
    if _is_plain(value):
        return True
    if not (isinstance(value, tuple) and len(value) == 2 and isinstance(value[0], str)):
        return False
    return value[0] == "even" and is_rate(value[1])


def check_currents(currents):
    """Raises InvalidCurrents for what is no kind of currents."""
    if not is_currents(currents):
        raise InvalidCurrents(currents)


def _check_pair(winding, other, currents):
    check_winding(winding)
    check_winding(other)
    check_currents(currents)
    check_same_shape(winding, other)


def _less(row, other):
    return added_rows(row, scaled_row(other, -1))


def _telling_rows(winding, other, currents):
    """The rows of phases less those of the other winding; for closed currents each less the first one of them."""
    rows = [_less(phase, twin) for phase, twin in zip(winding, other)]
    if currents == "closed":
        rows = [_less(row, rows[0]) for row in rows]
    return rows


def _add_up_to_nothing(rows, rate):
    """Whether in each slot the sum of r^k times the number of the row k is 0."""
    polynomial = polynomial_of(rate[0])
    return not any(any(remainder_by(numbers, polynomial)) for numbers in zip(*rows))


def _take_up_nothing(rows, rate, harmonic):
    """Whether the sum of r^k times what the row k takes up of the harmonic is 0."""
    root_order, turn = rate
    slots = len(rows[0])
    common = lcm(slots, root_order)
    rounds = [0] * common
    for index, row in enumerate(rows):
        start = common // root_order * turn * index
        for slot, number in enumerate(row):
            rounds[(start + common // slots * harmonic * slot) % common] += number
    return not any(reduced(common, rounds))


def are_alike(winding, other, currents):
    """Whether both windings put the same into each slot, for all currents of the kind."""
    _check_pair(winding, other, currents)
    rows = _telling_rows(winding, other, currents)
    if _is_plain(currents):
        return not any(any(row) for row in rows)
    return _add_up_to_nothing(rows, currents[1])


def are_alike_at(winding, other, currents, harmonic):
    """Whether what both windings put into the slots takes up the same of the harmonic, for all such currents."""
    check_winding(winding)
    check_winding(other)
    check_currents(currents)
    check_number(harmonic)
    check_same_shape(winding, other)
    rows = _telling_rows(winding, other, currents)
    if _is_plain(currents):
        return not any(is_there(row, harmonic) for row in rows)
    rate = currents[1]
    # The currents are real parts, halves of I and of its conjugate: these make nothing for all I only if the harmonic
    # and its opposite fall away.
    return _take_up_nothing(rows, rate, harmonic) and _take_up_nothing(rows, rate, - harmonic)


def unlike_harmonic(winding, other, currents):
    """The least harmonic from 1 on at which both windings are not alike; None if they are alike."""
    _check_pair(winding, other, currents)
    for harmonic in range(1, len(winding[0])):
        if not are_alike_at(winding, other, currents, harmonic):
            return harmonic
    return None


def parting_currents(winding, other, currents):
    """Whole currents for which both windings put unlike things into some slot; None if they are alike."""
    check_winding(winding)
    check_winding(other)
    if not _is_plain(currents):
        raise InvalidCurrents(currents)
    check_same_shape(winding, other)
    rows = _telling_rows(winding, other, currents)
    for index, row in enumerate(rows):
        if any(row):
            told = [0] * len(rows)
            told[index] = 1
            if currents == "closed":
                told[0] = -1
            return tuple(told)
    return None


def alike_turns(winding, other, currents):
    """The turns by which the other winding, all its phases turned, is alike to the first one."""
    _check_pair(winding, other, currents)
    turns = []
    for turn in range(len(winding[0])):
        turned = tuple(turned_row(phase, turn) for phase in other)
        if are_alike(winding, turned, currents):
            turns.append(turn)
    return tuple(turns)
