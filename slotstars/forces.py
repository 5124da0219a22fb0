"""Forces on the teeth: standing and beating ones, what beats into them, and whether they pull to one side."""

from slotstars.harmonics import is_there, order_of, orders_there
from slotstars.moments import field_at
from slotstars.points import norm_of, point_product
from slotstars.polygons import check_three, polygon
from slotstars.rows import check_winding
from slotstars.waves import harmonics_in, sum_at, waves
from slotstars.wholes import check_number


def standing_row(winding):
    """The norms of the polygon."""
    return tuple(norm_of(point) for point in polygon(winding))


def beating_points(winding):
    """The squares of the points of the polygon."""
    return tuple(point_product(point, point) for point in polygon(winding))


def _check_force(winding, lobes):
    check_winding(winding)
    check_number(lobes)
    check_three(winding)


def _can_be(lobes, slots):
    """Whether some force can have so many lobes: forces are the same all over a tooth."""
    return lobes == 0 or lobes % slots != 0


def has_standing(winding, lobes):
    """Whether the standing force with so many lobes is there."""
    _check_force(winding, lobes)
    return _can_be(lobes, len(winding[0])) and is_there(standing_row(winding), lobes)


def has_beating(winding, lobes):
    """Whether the beating force with so many lobes is there."""
    _check_force(winding, lobes)
    return _can_be(lobes, len(winding[0])) and any(sum_at(beating_points(winding), lobes)[1])


def standing_orders(winding):
    """The orders of the numbers of lobes at which the standing sum is not 0."""
    return orders_there(standing_row(winding))


def beating_classes(winding):
    """The numbers of lobes from 0 to Z - 1 at which the beating sum is not 0."""
    return harmonics_in(beating_points(winding))


def beaten_into(winding):
    """The pair of the differences and of the sums, modulo Z, of two waves that are there, or of one with itself."""
    here = waves(winding)
    slots = len(winding[0])
    differences = sorted({(harmonic - other) % slots for harmonic in here for other in here})
    sums = sorted({(harmonic + other) % slots for harmonic in here for other in here})
    return (tuple(differences), tuple(sums))


def least_lobes(winding):
    """The least number of lobes from 1 on with which some force is there, either way round; None if there is none."""
    orders, classes = standing_orders(winding), beating_classes(winding)
    slots = len(winding[0])
    for lobes in range(1, slots):
        if order_of(slots, lobes) in orders or lobes in classes or slots - lobes in classes:
            return lobes
    return None


def pulls(winding):
    """The pair of whether a standing force, and whether a beating one, has one lobe."""
    return (has_standing(winding, 1), has_beating(winding, 1) or has_beating(winding, -1))


def is_pulled_at(winding, moment):
    """Whether the machine is pulled to one side at the moment."""
    squares = tuple(number * number for number in field_at(winding, moment))
    return is_there(squares, 1)
