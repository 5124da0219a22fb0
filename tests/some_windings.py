"""Windings of three phases for the tests of waves and forces: with many symmetries, with few, with none, and flat."""

from makers import BIG, any_phase
from slotstars import copies, points, polygons, rows, stars

FULL = ((1, 0, 0, -1, 0, 0), (0, 0, 1, 0, 0, -1), (0, -1, 0, 0, 1, 0))
SHORT = ((1, 0, -1, 0, 0, 0), (0, 0, 1, 0, -1, 0), (-1, 0, 0, 0, 1, 0))
LONE = ((1, -1, 0, 0), (0, 0, 0, 0), (0, 0, 0, 0))


def place(point):
    """The point as a complex number."""
    return point[0] + point[1] * complex(-0.5, 0.75 ** 0.5)


def belted(slots, harmonic):
    """The winding of the narrow belts of a harmonic."""
    return stars.narrow_belts(slots, harmonic, 3)


def random_winding(chance, slots, reach=3):
    """A winding of three phases."""
    return tuple(any_phase(chance, slots, reach) for _ in range(3))


def stepped_winding(chance, slots):
    """A winding with a step by a third of all slots, which 3 divides."""
    return copies.copied_winding(any_phase(chance, slots, 3), 3, (slots // 3, 1))


def repeating_winding(chance, slots, turn):
    """A winding whose points come again after a divisor of the slots."""
    told = tuple(any_phase(chance, turn, 3) if turn > 1 else (0,) for _ in range(3))
    return tuple(phase * (slots // turn) for phase in told)


def mirrored_winding(chance, slots):
    """A winding of phases that are their own mirrors."""
    phases = [any_phase(chance, slots, 2) for _ in range(3)]
    return tuple(rows.added_rows(phase, rows.mirrored_row(phase)) for phase in phases)


def from_points(told):
    """The winding of these points of the slots, whose sum is (0, 0): the second phase is empty."""
    return (tuple(a for a, _ in told), (0,) * len(told), tuple(b for _, b in told))


def with_few_waves():
    """The winding of 12 slots with the waves 4, 5 and 11 alone: of the forces with one lobe, the standing one is there."""
    told = []
    for slot in range(12):
        point = points.turned_point((1, 0), -2 * slot)
        other = points.turned_point((1, 0), -5 * (slot // 2)) if slot % 2 == 0 else (0, 0)
        told.append((point[0] + other[0], point[1] + other[1]))
    return from_points(told)


def alternating(slots):
    """A winding with one wave alone, at half of the slots."""
    return ((1, -1) * (slots // 2), (0,) * slots, (0,) * slots)


def flat_windings(chance):
    """Windings without any wave."""
    return [((0, 0),) * 3, (FULL[0],) * 3, ((0,) * 60,) * 3, (any_phase(chance, 60, BIG),) * 3]


def windings_that_are_not_flat(chance):
    """Windings with waves: for numbers of slots that 3 divides and others, odd and prime ones, 2 and 60."""
    told = [FULL, SHORT, LONE, FULL[::-1], (FULL[0], FULL[0], FULL[1]), ((1, -1), (0, 0), (0, 0))]
    told += [((1, -1), (0, 0), (2, -2)), belted(12, 1), belted(12, 5), belted(18, 1), belted(24, 4), belted(60, 10)]
    told += [belted(60, 2), alternating(4), alternating(6), alternating(60), with_few_waves()]
    for slots in (2, 3, 4, 5, 6, 7, 8, 9, 12, 59, 60):
        told.append(random_winding(chance, slots))
    for slots in (3, 6, 9, 12):
        told.append(stepped_winding(chance, slots))
    for slots, turn in ((6, 2), (6, 3), (8, 4), (12, 3), (12, 4), (60, 5)):
        told.append(repeating_winding(chance, slots, turn))
    for slots in (4, 5, 9, 12):
        told.append(mirrored_winding(chance, slots))
    told += [random_winding(chance, 7, BIG), random_winding(chance, 12, BIG)]
    return [winding for winding in told if not polygons.is_flat(winding)]
