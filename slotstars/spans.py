"""Coils of one span: their starts, the phases that they make, and the harmonics that the span kills."""

from math import gcd

from slotstars.errors import InvalidBelts, InvalidRow, InvalidSpan
from slotstars.lattices import check_orders
from slotstars.rows import MOST_PHASES, check_phase, check_slots, is_row
from slotstars.wholes import check_number, divisors_of, is_within


def check_starts(starts):
    """Raises InvalidRow for what are no starts."""
    if not is_row(starts):
        raise InvalidRow(starts)


def check_span(span, slots):
    """Raises InvalidSpan for what is no span of so many slots."""
    if not is_within(span, 1, slots - 1):
        raise InvalidSpan(span)


def check_belts(belts):
    """Raises InvalidBelts for what are no rows of starts, of as many slots, for one to six phases."""
    if not isinstance(belts, tuple) or len(belts) == 0:
        raise InvalidBelts(None)
    for index, belt in enumerate(belts):
        if index == MOST_PHASES or not is_row(belt) or len(belt) != len(belts[0]):
            raise InvalidBelts(index)


def _phase_of(starts, span):
    """The phase of the starts and the span."""
    return tuple(number - starts[slot - span] for slot, number in enumerate(starts))


def _classes(slots, span):
    """The slots of each class modulo the greatest common divisor of the span and their number, a span on each time."""
    many = gcd(span, slots)
    return [[(first + turn * span) % slots for turn in range(slots // many)] for first in range(many)]


def span_phase(starts, span):
    """The phase of the starts and the span."""
    check_starts(starts)
    check_span(span, len(starts))
    return _phase_of(starts, span)


def lap(belts, span):
    """The winding of the phases of some rows of starts and one span."""
    check_belts(belts)
    check_span(span, len(belts[0]))
    return tuple(_phase_of(belt, span) for belt in belts)


def span_kills(slots, span):
    """The orders that the span kills."""
    check_slots(slots)
    check_span(span, slots)
    return divisors_of(gcd(slots, span))


def spans_without(slots, orders):
    """The spans that kill all these orders."""
    check_slots(slots)
    check_orders(orders, slots)
    return tuple(span for span in range(1, slots) if all(span % order == 0 for order in orders))


def best_spans(slots, harmonic, orders):
    """The spans that kill all these orders and leave the most of the harmonic, if they leave something."""
    check_slots(slots)
    check_number(harmonic)
    check_orders(orders, slots)
    # The size of 1 less a root of one is the greater, the further the root is from 1.
    reaches = {span: _reach(slots, harmonic * span) for span in spans_without(slots, orders)}
    greatest = max(reaches.values(), default=0)
    return tuple(span for span, reach in reaches.items() if reach == greatest and reach > 0)


def _reach(slots, power):
    """How many steps of the root of one of so many slots lie between 1 and its power."""
    ahead = power % slots
    return min(ahead, slots - ahead)


def starts_of(phase, span):
    """The fewest starts of which the phase is made with the span, of several the greatest; None if there are none."""
    check_phase(phase)
    check_span(span, len(phase))
    starts = [0] * len(phase)
    for slots in _classes(len(phase), span):
        total = 0
        for slot in slots:
            total += phase[slot]
            starts[slot] = total
        if total != 0:
            return None
        # One number may be added to the whole class: the sizes are least about its middle, and so the numbers are
        # greatest about the lower one of two middles.
        middle = sorted([starts[slot] for slot in slots])[(len(slots) - 1) // 2]
        for slot in slots:
            starts[slot] -= middle
    return tuple(starts)


def is_fewest(starts, span):
    """Whether no starts that make the same phase with the span have a lesser sum of sizes."""
    check_starts(starts)
    check_span(span, len(starts))
    for slots in _classes(len(starts), span):
        above = len([slot for slot in slots if starts[slot] > 0])
        below = len([slot for slot in slots if starts[slot] < 0])
        if 2 * max(above, below) > len(slots):
            return False
    return True
