"""The twelve moments of a turn of the currents: the currents, the field over the teeth, and its squares."""

from slotstars.errors import InvalidMoment
from slotstars.points import turned_point
from slotstars.polygons import check_three, polygon
from slotstars.rows import check_winding
from slotstars.wholes import is_within

MOMENTS = 12
# The cosines of the twelfths of a turn, times 2 for even twelfths, times 2 / sqrt 3 for odd ones.
COSINES = (2, 1, 1, 0, -1, -1, -2, -1, -1, 0, 1, 1)


def check_moment(moment):
    """Raises InvalidMoment for what is no moment."""
    if not is_within(moment, 0, MOMENTS - 1):
        raise InvalidMoment(moment)


def currents_at(moment):
    """The three currents at the moment, in the units that make them whole."""
    check_moment(moment)
    return tuple(COSINES[(moment - 4 * phase) % MOMENTS] for phase in range(3))


def field_at(winding, moment):
    """Z times the field over each tooth at the moment."""
    check_winding(winding)
    check_moment(moment)
    check_three(winding)
    weight = 1 if moment % 2 == 1 else 2
    turned = [turned_point(point, moment // 2) for point in polygon(winding)]
    return tuple(weight * first - second for first, second in turned)


def square_at(winding, moment):
    """The sum of the squares of Z times the field over the teeth at the moment."""
    return sum(number * number for number in field_at(winding, moment))
