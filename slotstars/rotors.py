"""Rotors: the lobes of the forces that some rotor makes with the field of a winding, and ripples of its moment."""

from math import gcd

from slotstars.errors import InvalidNumber, InvalidPairs
from slotstars.polygons import check_three
from slotstars.rows import check_winding
from slotstars.waves import is_wave, waves
from slotstars.wholes import is_whole, is_within

MOST_PAIRS = 60


def check_pairs(pairs):
    """Raises InvalidPairs for what is no number of pairs of poles."""
    if not is_within(pairs, 1, MOST_PAIRS):
        raise InvalidPairs(pairs)


def _check_rotor(winding, pairs):
    check_winding(winding)
    check_pairs(pairs)
    check_three(winding)


def _common(winding, pairs):
    """The greatest common divisor of Z and of the poles of the rotor: the rotor's waves are alike modulo it."""
    return gcd(2 * pairs, len(winding[0]))


def mixed_lobes(winding, pairs):
    """The pair of D and of the numbers to which the lobes of the mixed forces are alike modulo D."""
    _check_rotor(winding, pairs)
    common = _common(winding, pairs)
    lobes = [pairs - harmonic for harmonic in waves(winding)]
    return (common, tuple(sorted({number % common for lobe in lobes for number in (lobe, - lobe)})))


def mixed_pulls(winding, pairs):
    """Whether a mixed force with one lobe comes with some rotor."""
    common, lobes = mixed_lobes(winding, pairs)
    return 1 % common in lobes


def is_ripple(winding, pairs, many):
    """Whether the moment has, with some rotor, a ripple of twice so many times the frequency."""
    check_winding(winding)
    check_pairs(pairs)
    if not (is_whole(many) and many >= 0):
        raise InvalidNumber(many)
    check_three(winding)
    return is_wave(winding, pairs + 2 * many * pairs) or is_wave(winding, pairs - 2 * many * pairs)


def ripples(winding, pairs):
    """The pair of Z / D and of the numbers to which all that tell a ripple are alike modulo Z / D."""
    _check_rotor(winding, pairs)
    slots = len(winding[0])
    rounds = slots // _common(winding, pairs)
    here = waves(winding)
    found = [
        many for many in range(rounds)
        if (pairs + 2 * many * pairs) % slots in here or (pairs - 2 * many * pairs) % slots in here
    ]
    return (rounds, tuple(found))


def least_ripple(winding, pairs):
    """The least number from 1 on that tells a ripple; None if there is none."""
    rounds, found = ripples(winding, pairs)
    # Where a steady part is the only one, it comes again after a whole round.
    return min([many if many > 0 else rounds for many in found], default=None)
