"""Waves: the sums of the points of a winding at each harmonic, how strong they are, and how much all others have."""

from slotstars.cosines import near_cosines, near_pi
from slotstars.errors import InvalidNumber, NoWave
from slotstars.polygons import check_three, mean_square, slot_points
from slotstars.polynomials import reduced
from slotstars.roots import check_fraction, compare_real, size_of
from slotstars.rows import check_winding
from slotstars.wholes import check_number, is_whole


def check_wave_number(given):
    """Raises InvalidNumber for what is no whole number other than 0."""
    if not is_whole(given) or given == 0:
        raise InvalidNumber(given)


def sum_at(points, harmonic):
    """The sum of all z^(h s) times the point s, of an order that has the root w of the points, too."""
    slots = len(points)
    order = slots if slots % 3 == 0 else 3 * slots
    step = order // slots * harmonic
    rounds = [0] * order
    for slot, (first, second) in enumerate(points):
        place = step * slot
        rounds[place % order] += first
        rounds[(place + order // 3) % order] += second
    return (order, reduced(order, rounds))


def harmonics_in(points):
    """The harmonics from 0 on and below the number of points at which the sum is not 0."""
    return tuple(harmonic for harmonic in range(len(points)) if any(sum_at(points, harmonic)[1]))


def wave(winding, harmonic):
    """V(h), a sum of roots of one."""
    check_winding(winding)
    check_number(harmonic)
    check_three(winding)
    return sum_at(slot_points(winding), harmonic)


def is_wave(winding, harmonic):
    """Whether the wave is there."""
    return any(wave(winding, harmonic)[1])


def waves(winding):
    """The waves from 0 to Z - 1 that are there."""
    return harmonics_in(slot_points(winding))


def compare_waves(winding, harmonic, other):
    """The sign of the strength of the wave less that of the other one."""
    check_winding(winding)
    check_wave_number(harmonic)
    check_wave_number(other)
    check_three(winding)
    size, other_size = size_of(wave(winding, harmonic)), size_of(wave(winding, other))
    return _compare_strengths(size, harmonic, other_size, other)


def _compare_strengths(size, harmonic, other_size, other):
    """The sign of |V(h)| / |h| less that of the other wave, told by the squares without their denominators."""
    return compare_real(_times(size, other * other), _times(other_size, harmonic * harmonic))


def _times(number, many):
    order, numbers = number
    return (order, tuple(many * part for part in numbers))


def strongest_waves(winding):
    """All whole numbers other than 0 for which no wave is stronger; none if the winding is flat."""
    points = slot_points(winding)
    half = len(points) // 2
    strongest = []
    greatest = None
    # Of the waves that come round with Z, those with the least |h| are the strongest ones.
    for harmonic in range(- half, half + 1):
        size = size_of(sum_at(points, harmonic))
        if any(size[1]):
            sign = 1 if greatest is None else _compare_strengths(size, harmonic, greatest, strongest[0])
            if sign == 1:
                strongest = [harmonic]
                greatest = size
            elif sign == 0:
                strongest.append(harmonic)
    return tuple(strongest)


def is_leak_below(winding, harmonic, fraction):
    """Whether the mean square of all other waves, measured by that of this one, is below the fraction."""
    check_winding(winding)
    check_wave_number(harmonic)
    check_fraction(fraction)
    check_three(winding)
    if not is_wave(winding, harmonic):
        raise NoWave()
    above, below = fraction
    # The leak is M / (|V|^2 / (4 pi^2 h^2)) - 1, with the mean square M.
    top, bottom = mean_square(winding)
    pi_factor = 4 * harmonic * harmonic * top * below
    size = size_of(wave(winding, harmonic))
    return _is_below(pi_factor, _times(size, bottom * (above + below)))


def _is_below(factor, number):
    """Whether the factor times the square of pi is below the real sum; they must not be the same number."""
    order, numbers = number
    reach = sum(abs(part) for part in numbers)
    bits = 64 + reach.bit_length() + factor.bit_length()
    while True:
        middle = near_pi(bits)
        cosines = near_cosines(order, len(numbers), bits)
        total = sum(part * cosine for part, cosine in zip(numbers, cosines))
        if factor * (middle + 2) ** 2 <= (total - 2 * reach) << bits:
            return True
        if factor * (middle - 2) ** 2 >= (total + 2 * reach) << bits:
            return False
        bits *= 2
