"""What the checker takes for a proof of claims of rows, of choices of conductors, of spans and of end turns.

Each function tells whether the paper proves the claim with these parts; an error says that there is no such claim, or
no such paper.
"""

from math import gcd

from slotstars.ends import ends_of, least_ends, levels
from slotstars.harmonics import compare_sizes, has_order, is_there, same_sizes
from slotstars.lattices import check_orders, lacks, phase_with, shares_of
from slotstars.rows import check_coils, check_phase, check_row, check_slots, conductors_of, winding_of
from slotstars.spans import check_span, is_fewest, span_phase
from slotstars.stars import better_choice, check_is_choice, check_many, check_room, is_choice
from slotstars.wholes import are_wholes, check_number, is_whole, is_within


def is_empty(paper):
    """Whether it is the paper of a claim that needs none."""
    return isinstance(paper, tuple) and len(paper) == 0


def _there(paper, row, harmonic):
    return is_empty(paper) and is_there(row, harmonic)


def _gone(paper, row, harmonic):
    return is_empty(paper) and not is_there(row, harmonic)


def _sizes(paper, row, harmonic, other, twin, sign):
    return is_empty(paper) and is_whole(sign) and compare_sizes(row, harmonic, other, twin) == sign


def _same_sizes(paper, row, other):
    return is_empty(paper) and same_sizes(row, other)


def _unlike_sizes(paper, row, other):
    return compare_sizes(row, paper, other, paper) != 0


def _lacks(paper, row, orders):
    return are_wholes(paper) and shares_of(row, orders) == paper


def _has(paper, row, orders):
    check_row(row)
    check_orders(orders, len(row))
    return is_whole(paper) and paper in orders and has_order(row, paper)


def _phase_with(paper, slots, harmonic, orders):
    check_slots(slots)
    check_number(harmonic)
    check_orders(orders, slots)
    check_phase(paper)
    return len(paper) == slots and is_there(paper, harmonic) and lacks(paper, orders)


def _no_phase_with(paper, slots, harmonic, orders):
    return is_empty(paper) and phase_with(slots, harmonic, orders) is None


def _greatest(paper, room, many, harmonic, phase):
    return is_empty(paper) and better_choice(room, many, harmonic, phase) is None


def _better(paper, room, many, harmonic, phase):
    check_room(room)
    check_many(many)
    check_number(harmonic)
    check_phase(phase)
    check_is_choice(room, many, phase)
    return is_choice(room, many, paper) and compare_sizes(paper, harmonic, phase, harmonic) > 0


def _of_span(paper, phase, span):
    check_phase(phase)
    check_span(span, len(phase))
    return span_phase(paper, span) == phase


def _not_of_span(paper, phase, span):
    check_phase(phase)
    check_span(span, len(phase))
    many = gcd(span, len(phase))
    return is_within(paper, 0, len(phase) - 1) and sum(phase[paper % many::many]) != 0


def _fewest(paper, phase, span, number):
    if not (is_whole(number) and _of_span(paper, phase, span)):
        return False
    return is_fewest(paper, span) and conductors_of(paper) == number


def _ends(paper, phase, number):
    check_phase(phase)
    if not (is_whole(number) and isinstance(paper, tuple) and len(paper) == 2):
        return False
    coils, level = paper
    check_coils(coils)
    least, greatest = levels(phase)
    if not is_within(level, least, greatest) or winding_of(coils, len(phase), 1) != (phase,):
        return False
    return ends_of(coils, len(phase)) == number == least_ends(phase)


# For each word: how many parts follow it, and what is taken for a proof.
PROOFS_OF_ROWS = {
    "there": (2, _there),
    "gone": (2, _gone),
    "sizes": (5, _sizes),
    "same sizes": (2, _same_sizes),
    "unlike sizes": (2, _unlike_sizes),
    "lacks": (2, _lacks),
    "has": (2, _has),
    "phase with": (3, _phase_with),
    "no phase with": (3, _no_phase_with),
    "greatest": (4, _greatest),
    "better": (4, _better),
    "of span": (2, _of_span),
    "not of span": (2, _not_of_span),
    "fewest": (3, _fewest),
    "ends": (2, _ends),
}
