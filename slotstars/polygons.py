"""The polygon of a winding of three phases: its points, its mean square, its peak, its pulse and its sweep."""

from slotstars.errors import NotThree
from slotstars.points import norm_of, point_product
from slotstars.rows import check_winding
from slotstars.wholes import lowest_terms


def check_three(winding):
    """Raises NotThree for a winding with another number of phases than three."""
    if len(winding) != 3:
        raise NotThree(len(winding))


def check_three_phases(winding):
    """Raises InvalidWinding for what is no winding, NotThree for one that has not three phases."""
    check_winding(winding)
    check_three(winding)


def slot_points(winding):
    """The points of the slots."""
    check_three_phases(winding)
    return tuple((first - second, third - second) for first, second, third in zip(*winding))


def corners(winding):
    """The sums of the points of the slots before each one."""
    sums = [(0, 0)]
    for first, second in slot_points(winding)[:-1]:
        sums.append((sums[-1][0] + first, sums[-1][1] + second))
    return tuple(sums)


def polygon(winding):
    """The points of the polygon, one for each tooth."""
    points = corners(winding)
    slots = len(points)
    middle = (sum(first for first, _ in points), sum(second for _, second in points))
    return tuple((slots * first - middle[0], slots * second - middle[1]) for first, second in points)


def is_flat(winding):
    """Whether the points of all slots are (0, 0)."""
    return all(point == (0, 0) for point in slot_points(winding))


def _norms(winding):
    return [norm_of(point) for point in polygon(winding)]


def mean_square(winding):
    """The mean square, a fraction."""
    norms = _norms(winding)
    return lowest_terms(sum(norms), len(norms) ** 3)


def peak(winding):
    """The square of the greatest field of all teeth and moments, a fraction."""
    norms = _norms(winding)
    return lowest_terms(max(norms), len(norms) ** 2)


def peak_teeth(winding):
    """The teeth with the greatest norm."""
    norms = _norms(winding)
    greatest = max(norms)
    return tuple(tooth for tooth, norm in enumerate(norms) if norm == greatest)


def pulse(winding):
    """The sum of the squares of the points of the polygon, a point."""
    squares = [point_product(point, point) for point in polygon(winding)]
    return (sum(first for first, _ in squares), sum(second for _, second in squares))


def sweep(winding):
    """The sum of b * a' - a * b' for all points (a, b) of the polygon and those, (a', b'), that follow them."""
    points = polygon(winding)
    # The index -1 of the first tooth leads to the last one: the sum goes round.
    return sum(
        points[tooth - 1][1] * first - points[tooth - 1][0] * second for tooth, (first, second) in enumerate(points)
    )
