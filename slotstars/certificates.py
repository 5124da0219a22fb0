"""Certificates: claims with the papers that the checker accepts; of claims that exclude one another, the true one."""

from math import gcd

from slotstars.alike import unlike_harmonic
from slotstars.balance import balanced_winding, rate_at, unbalancing_harmonic
from slotstars.copies import check_step, full_winding, has_step, steps_of
from slotstars.ends import least_ends, levels, short_coils
from slotstars.errors import NoStarts
from slotstars.forces import is_pulled_at
from slotstars.harmonics import compare_sizes, has_order, is_there, parting_size
from slotstars.lattices import phase_with, shares_of
from slotstars.moments import MOMENTS
from slotstars.poles import joinings_for
from slotstars.polygons import check_three
from slotstars.readings import never_parted, parts
from slotstars.rotors import is_ripple
from slotstars.rows import check_winding, conductors_of
from slotstars.spans import starts_of
from slotstars.stars import better_choice, check_many
from slotstars.symmetries import is_repeat
from slotstars.waves import is_leak_below, is_wave, waves
from slotstars.ways import is_quiet, sharings
from slotstars.wholes import divisors_of


def certify_harmonic(row, harmonic):
    """That the harmonic of the row is there, or gone."""
    return (("there" if is_there(row, harmonic) else "gone", row, harmonic), ())


def certify_sizes(row, harmonic, other, twin):
    """Which of two rows has the greater size, each at its harmonic."""
    return (("sizes", row, harmonic, other, twin, compare_sizes(row, harmonic, other, twin)), ())


def certify_same_sizes(row, other):
    """That two rows have the same sizes at all harmonics, or have not."""
    harmonic = parting_size(row, other)
    if harmonic is None:
        return (("same sizes", row, other), ())
    return (("unlike sizes", row, other), harmonic)


def certify_lacking(row, orders):
    """That the row has no harmonic of these orders, or has one."""
    shares = shares_of(row, orders)
    if shares is not None:
        return (("lacks", row, orders), shares)
    here = [order for order in orders if has_order(row, order)]
    return (("has", row, orders), here[0])


def certify_phase(slots, harmonic, orders):
    """That some phase has the harmonic and none of these orders, or that none has."""
    phase = phase_with(slots, harmonic, orders)
    if phase is None:
        return (("no phase with", slots, harmonic, orders), ())
    return (("phase with", slots, harmonic, orders), phase)


def certify_balance(winding, harmonic):
    """That the winding is balanced at the harmonic, or unbalanced by it, or takes up nothing of it."""
    rate = rate_at(winding, harmonic)
    if rate is not None:
        return (("balanced", winding, harmonic, rate), ())
    is_taken = any(is_there(phase, harmonic) for phase in winding)
    return (("unbalanced" if is_taken else "nothing", winding, harmonic), ())


def certify_always(winding):
    """That no harmonic unbalances the winding, or that one does."""
    harmonic = unbalancing_harmonic(winding)
    if harmonic is None:
        return (("always balanced", winding), ())
    return (("unbalanced", winding, harmonic), ())


def certify_balancing(slots, phases, harmonic, rate):
    """That some winding is balanced at the harmonic with the rate, or that none is."""
    winding = balanced_winding(slots, phases, harmonic, rate)
    if winding is None:
        return (("cannot balance", slots, phases, harmonic, rate), ())
    return (("can balance", slots, phases, harmonic, rate), winding)


def certify_step(winding, step):
    """That the winding has the step, or has not."""
    check_winding(winding)
    check_step(step, len(winding[0]))
    return (("has step" if has_step(winding, step) else "no step", winding, step), ())


def certify_full(slots, phases, conductors, harmonic, rate):
    """That some full winding with a step is balanced at the harmonic with the rate, or that none is."""
    winding = full_winding(slots, phases, conductors, harmonic, rate)
    if winding is None:
        return (("not full", slots, phases, conductors, harmonic, rate), ())
    return (("full", slots, phases, conductors, harmonic, rate), (winding, steps_of(winding)[0]))


def certify_alike(winding, other, currents):
    """That two windings are alike for all currents of the kind, or are not."""
    harmonic = unlike_harmonic(winding, other, currents)
    if harmonic is None:
        return (("alike", winding, other, currents), ())
    return (("unlike", winding, other, currents), harmonic)


def certify_ways(ways, orders):
    """That the ways are quiet at these orders, or loud at one."""
    if is_quiet(ways, orders):
        return (("quiet", ways, orders), ())
    loud = [order for order in orders if not is_quiet(ways, (order,))]
    return (("loud", ways, orders), loud[0])


def certify_sharing(groups, many, orders):
    """That some sharing into so many ways is quiet at these orders, or that none is."""
    found = sharings(groups, many, orders)
    if len(found) == 0:
        return (("no sharing", groups, many, orders), ())
    return (("shares", groups, many, orders), found[0])


def certify_joining(groups, phases, harmonic, rate):
    """That some joining is balanced at the harmonic with the rate, or that none is."""
    found = joinings_for(groups, phases, harmonic, rate)
    if len(found) == 0:
        return (("no joining", groups, phases, harmonic, rate), ())
    return (("joins", groups, phases, harmonic, rate), found[0])


def certify_parting(winding, other):
    """That some test parts two windings, or that none does."""
    if never_parted(winding, other):
        return (("never parted", winding, other), ())
    found = [test for test in _telling_tests(len(winding), len(winding[0])) if parts(winding, other, test)]
    return (("parted", winding, other), found[0])


def _telling_tests(phases, slots):
    """Tests of each phase and of each sum of two: if none of them parts two windings, none does."""
    # The readings of more phases are made of these; one harmonic of each order is enough.
    return [
        (tuple(1 if index in (first, second) else 0 for index in range(phases)), harmonic)
        for first in range(phases) for second in range(first, phases) for harmonic in divisors_of(slots)
    ]


def certify_choice(room, many, harmonic, phase):
    """That no choice of so many conductors has a greater size than the phase, or that one has."""
    better = better_choice(room, many, harmonic, phase)
    if better is None:
        return (("greatest", room, many, harmonic, phase), ())
    return (("better", room, many, harmonic, phase), better)


def certify_span(phase, span):
    """That the phase is that of some starts and the span, or is not."""
    starts = starts_of(phase, span)
    if starts is not None:
        return (("of span", phase, span), starts)
    many = gcd(span, len(phase))
    unbalanced = [slot for slot in range(many) if sum(phase[slot::many]) != 0]
    return (("not of span", phase, span), unbalanced[0])


def certify_fewest(phase, span):
    """The least sum of sizes of starts with which the span makes the phase."""
    starts = starts_of(phase, span)
    if starts is None:
        raise NoStarts()
    return (("fewest", phase, span, conductors_of(starts)), starts)


def certify_ends(phase):
    """The least ends of the phase."""
    level, _ = levels(phase)
    return (("ends", phase, least_ends(phase)), (short_coils(phase), level))


def certify_wave(winding, harmonic):
    """That the wave is there, or is not."""
    return (("wave" if is_wave(winding, harmonic) else "no wave", winding, harmonic), ())


def certify_classes(winding, many):
    """That all waves that are there are alike modulo so many, or that two are not."""
    check_winding(winding)
    check_many(many)
    check_three(winding)
    here = waves(winding)
    if len(here) == 0:
        return (("alike waves", winding, many, 0), ())
    # With each wave there are those that lie a whole number of rounds further on.
    others = [harmonic for harmonic in (*here, here[0] + len(winding[0])) if (harmonic - here[0]) % many != 0]
    if len(others) == 0:
        return (("alike waves", winding, many, here[0] % many), ())
    return (("two waves", winding, many), (here[0], others[0]))


def certify_leak(winding, harmonic, fraction):
    """That the leak of the wave is below the fraction, or above it."""
    is_below = is_leak_below(winding, harmonic, fraction)
    return (("leak below" if is_below else "leak above", winding, harmonic, fraction), ())


def certify_repeat(winding, turn, sixths):
    """That the turn and the sixths are a repeat, or are none."""
    return (("repeat" if is_repeat(winding, turn, sixths) else "no repeat", winding, turn, sixths), ())


def certify_pull(winding):
    """That the machine is pulled at some moment, or at none."""
    pulled = [moment for moment in range(MOMENTS) if is_pulled_at(winding, moment)]
    if len(pulled) == 0:
        return (("no pull", winding), ())
    return (("pull", winding), pulled[0])


def certify_ripple(winding, pairs, many):
    """That the moment has, with some rotor, a ripple of twice so many times the frequency, or never has."""
    return (("ripple" if is_ripple(winding, pairs, many) else "no ripple", winding, pairs, many), ())
