"""Symmetries of the points of a winding: repeats, mirrors, and the class in which all its waves lie."""

from slotstars.points import mirrored_point, turned_point
from slotstars.polygons import check_three, is_flat, slot_points
from slotstars.rows import check_winding
from slotstars.wholes import check_number, divisors_of


def _are_turned(points, others, sixths):
    """Whether each point is the other one at its place, turned by so many sixths."""
    return all(point == turned_point(other, sixths) for point, other in zip(points, others))


def _repeats(points, turn, sixths):
    """Whether the point of each slot, turned so, is that of the slot a turn further on."""
    first = turn % len(points)
    return _are_turned(points[first:] + points[:first], points, sixths)


def is_repeat(winding, turn, sixths):
    """Whether the turn and the sixths are a repeat."""
    check_winding(winding)
    check_number(turn)
    check_number(sixths)
    check_three(winding)
    return _repeats(slot_points(winding), turn, sixths)


def least_repeat(winding):
    """The repeat with the least turn from 1 on; None if the winding is flat."""
    if is_flat(winding):
        return None
    points = slot_points(winding)
    # The least turn divides Z; once round, without a sixth, is a repeat in any case.
    found = [
        (turn, sixths) for turn in divisors_of(len(points)) for sixths in range(6) if _repeats(points, turn, sixths)
    ]
    return found[0]


def class_of_waves(winding):
    """The greatest divisor of Z modulo which all waves are alike, and what they are alike to; None if there is none."""
    repeat = least_repeat(winding)
    if repeat is None:
        return None
    turn, sixths = repeat
    many = len(winding[0]) // turn
    return (many, - sixths * many // 6 % many)


def mirrors(winding):
    """The ascending tuple of all mirrors."""
    points = slot_points(winding)
    slots = len(points)
    mirrored = [mirrored_point(point) for point in points]
    found = []
    for first in range(slots):
        behind = [points[(first - slot) % slots] for slot in range(slots)]
        found += [(first, sixths) for sixths in range(6) if _are_turned(behind, mirrored, sixths)]
    return tuple(found)
