"""What the checker takes for a proof of claims of waves, leaks, repeats, pulls and ripples.

Each function tells whether the paper proves the claim with these parts; an error says that there is no such claim, or
no such paper.
"""

from slotstars.forces import is_pulled_at, pulls
from slotstars.polygons import check_three_phases
from slotstars.proofs_rows import is_empty
from slotstars.rotors import is_ripple
from slotstars.stars import check_many
from slotstars.symmetries import is_repeat
from slotstars.waves import is_leak_below, is_wave, waves
from slotstars.wholes import are_wholes, is_within


def _wave(paper, winding, harmonic):
    return is_empty(paper) and is_wave(winding, harmonic)


def _no_wave(paper, winding, harmonic):
    return is_empty(paper) and not is_wave(winding, harmonic)


def _are_alike_modulo(winding, many, rest):
    """Whether all waves that are there, h + Z beside h, leave the rest by so many."""
    here = waves(winding)
    return len(here) == 0 or (len(winding[0]) % many == 0 and all(harmonic % many == rest for harmonic in here))


def _alike_waves(paper, winding, many, rest):
    check_three_phases(winding)
    check_many(many)
    return is_empty(paper) and is_within(rest, 0, many - 1) and _are_alike_modulo(winding, many, rest)


def _two_waves(paper, winding, many):
    check_three_phases(winding)
    check_many(many)
    if not (are_wholes(paper) and len(paper) == 2):
        return False
    harmonic, other = paper
    return (harmonic - other) % many != 0 and is_wave(winding, harmonic) and is_wave(winding, other)


def _leak_below(paper, winding, harmonic, fraction):
    return is_empty(paper) and is_leak_below(winding, harmonic, fraction)


def _leak_above(paper, winding, harmonic, fraction):
    return is_empty(paper) and not is_leak_below(winding, harmonic, fraction)


def _repeat(paper, winding, turn, sixths):
    return is_empty(paper) and is_repeat(winding, turn, sixths)


def _no_repeat(paper, winding, turn, sixths):
    return is_empty(paper) and not is_repeat(winding, turn, sixths)


def _pull(paper, winding):
    return is_pulled_at(winding, paper)


def _no_pull(paper, winding):
    return is_empty(paper) and not any(pulls(winding))


def _ripple(paper, winding, pairs, many):
    return is_empty(paper) and is_ripple(winding, pairs, many)


def _no_ripple(paper, winding, pairs, many):
    return is_empty(paper) and not is_ripple(winding, pairs, many)


# For each word: how many parts follow it, and what is taken for a proof.
PROOFS_OF_WAVES = {
    "wave": (2, _wave),
    "no wave": (2, _no_wave),
    "alike waves": (3, _alike_waves),
    "two waves": (2, _two_waves),
    "leak below": (3, _leak_below),
    "leak above": (3, _leak_above),
    "repeat": (3, _repeat),
    "no repeat": (3, _no_repeat),
    "pull": (1, _pull),
    "no pull": (1, _no_pull),
    "ripple": (3, _ripple),
    "no ripple": (3, _no_ripple),
}
