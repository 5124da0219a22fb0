"""What the checker takes for a proof of claims of windings: of balance, steps, likeness, ways, joinings and tests.

Each function tells whether the paper proves the claim with these parts; an error says that there is no such claim, or
no such paper.
"""

from slotstars.alike import are_alike, are_alike_at
from slotstars.balance import can_balance, check_rate, is_balanced, rate_at, unbalancing_harmonic
from slotstars.copies import check_conductors, check_step, full_steps, has_step, is_full, is_step
from slotstars.harmonics import is_there
from slotstars.lattices import check_orders
from slotstars.poles import check_few_joinings, joined, joinings_for
from slotstars.proofs_rows import is_empty
from slotstars.readings import never_parted, parts
from slotstars.rows import check_phases, check_slots, check_winding, is_winding
from slotstars.ways import (
    MOST_GROUPS, MOST_WAYS, check_groups, check_sharing, check_ways, is_quiet, shared_ways, sharings,
)
from slotstars.wholes import check_number, check_within, is_whole


def _has_shape(value, slots, phases):
    """Whether it is a winding of so many slots and phases, whatever it is."""
    return is_winding(value) and len(value) == phases and len(value[0]) == slots


def _takes_something(winding, harmonic):
    return any(is_there(phase, harmonic) for phase in winding)


def _balanced(paper, winding, harmonic, rate):
    return is_empty(paper) and is_balanced(winding, harmonic, rate)


def _unbalanced(paper, winding, harmonic):
    return is_empty(paper) and rate_at(winding, harmonic) is None and _takes_something(winding, harmonic)


def _nothing(paper, winding, harmonic):
    check_winding(winding)
    check_number(harmonic)
    return is_empty(paper) and not _takes_something(winding, harmonic)


def _always_balanced(paper, winding):
    return is_empty(paper) and unbalancing_harmonic(winding) is None


def _can_balance(paper, slots, phases, harmonic, rate):
    check_slots(slots)
    check_phases(phases)
    check_number(harmonic)
    check_rate(rate)
    return _has_shape(paper, slots, phases) and is_balanced(paper, harmonic, rate)


def _cannot_balance(paper, slots, phases, harmonic, rate):
    return is_empty(paper) and not can_balance(slots, phases, harmonic, rate)


def _has_step(paper, winding, step):
    check_winding(winding)
    check_step(step, len(winding[0]))
    return is_empty(paper) and has_step(winding, step)


def _no_step(paper, winding, step):
    check_winding(winding)
    check_step(step, len(winding[0]))
    return is_empty(paper) and not has_step(winding, step)


def _full(paper, slots, phases, conductors, harmonic, rate):
    check_slots(slots)
    check_phases(phases)
    check_conductors(conductors)
    check_number(harmonic)
    check_rate(rate)
    if not (isinstance(paper, tuple) and len(paper) == 2):
        return False
    winding, step = paper
    if not (_has_shape(winding, slots, phases) and is_step(step, slots)):
        return False
    return is_full(winding, conductors) and is_balanced(winding, harmonic, rate) and has_step(winding, step)


def _not_full(paper, slots, phases, conductors, harmonic, rate):
    return is_empty(paper) and len(full_steps(slots, phases, conductors, harmonic, rate)) == 0


def _alike(paper, winding, other, currents):
    return is_empty(paper) and are_alike(winding, other, currents)


def _unlike(paper, winding, other, currents):
    return not are_alike_at(winding, other, currents, paper)


def _quiet(paper, ways, orders):
    return is_empty(paper) and is_quiet(ways, orders)


def _loud(paper, ways, orders):
    check_ways(ways)
    check_orders(orders, len(ways[0]))
    return is_whole(paper) and paper in orders and not is_quiet(ways, (paper,))


def _shares(paper, groups, many, orders):
    check_groups(groups, MOST_GROUPS)
    check_within(many, 1, MOST_WAYS)
    check_orders(orders, len(groups[0]))
    check_sharing(paper, len(groups))
    if max(paper) + 1 != many:
        return False
    return many == 1 or is_quiet(shared_ways(groups, paper), orders)


def _no_sharing(paper, groups, many, orders):
    return is_empty(paper) and len(sharings(groups, many, orders)) == 0


def _joins(paper, groups, phases, harmonic, rate):
    winding = joined(groups, phases, paper)
    check_few_joinings(groups, phases)
    return is_balanced(winding, harmonic, rate)


def _no_joining(paper, groups, phases, harmonic, rate):
    return is_empty(paper) and len(joinings_for(groups, phases, harmonic, rate)) == 0


def _parted(paper, winding, other):
    return parts(winding, other, paper)


def _never_parted(paper, winding, other):
    return is_empty(paper) and never_parted(winding, other)


# For each word: how many parts follow it, and what is taken for a proof.
PROOFS_OF_WINDINGS = {
    "balanced": (3, _balanced),
    "unbalanced": (2, _unbalanced),
    "nothing": (2, _nothing),
    "always balanced": (1, _always_balanced),
    "can balance": (4, _can_balance),
    "cannot balance": (4, _cannot_balance),
    "has step": (2, _has_step),
    "no step": (2, _no_step),
    "full": (5, _full),
    "not full": (5, _not_full),
    "alike": (3, _alike),
    "unlike": (3, _unlike),
    "quiet": (2, _quiet),
    "loud": (2, _loud),
    "shares": (3, _shares),
    "no sharing": (3, _no_sharing),
    "joins": (4, _joins),
    "no joining": (4, _no_joining),
    "parted": (2, _parted),
    "never parted": (2, _never_parted),
}
