"""Points (a, b), which stand for a + b w, w being the third part of a turn: their products, turns and norms."""

from slotstars.errors import InvalidPoint
from slotstars.wholes import are_wholes, check_number


def is_point(value):
    """Whether it is a point, whatever it is."""
    return are_wholes(value) and len(value) == 2


def check_point(point):
    """Raises InvalidPoint for what is no point."""
    if not is_point(point):
        raise InvalidPoint(point)


def point_product(point, other):
    """The product of two points."""
    check_point(point)
    check_point(other)
    first, second = point
    third, fourth = other
    return (first * third - second * fourth, first * fourth + second * third - second * fourth)


def turned_point(point, sixths):
    """The point turned by so many sixths of a turn."""
    check_point(point)
    check_number(sixths)
    first, second = point
    for _ in range(sixths % 6):
        first, second = first - second, first
    return (first, second)


def mirrored_point(point):
    """The conjugate of the point."""
    check_point(point)
    return (point[0] - point[1], - point[1])


def norm_of(point):
    """The square of the length of the point."""
    check_point(point)
    first, second = point
    return first * first - first * second + second * second
