"""Points of slots, corners, polygons, the mean square, the peak, the pulse, the sweep: [36], [38]."""

import cmath
import math
import random
import unittest
from fractions import Fraction

from makers import BIG, any_phase, root
from slotstars import points, polygons
from slotstars.errors import InvalidWinding, NotThree

FULL = ((1, 0, 0, -1, 0, 0), (0, 0, 1, 0, 0, -1), (0, -1, 0, 0, 1, 0))
LONE = ((1, -1, 0, 0), (0, 0, 0, 0), (0, 0, 0, 0))


def place(point):
    """The point as a complex number."""
    return point[0] + point[1] * root(3, 1)


def loads_at(winding, tau):
    """The currents in the slots at a moment, an angle."""
    currents = [math.cos(tau - k * 2 * math.pi / 3) for k in range(3)]
    return [sum(current * number for current, number in zip(currents, numbers)) for numbers in zip(*winding)]


def field_at(winding, tau):
    """The field over each tooth at a moment: the sums of the loads, with the mean 0."""
    loads = loads_at(winding, tau)
    sums = [sum(loads[:slot]) for slot in range(len(loads))]
    return [number - sum(sums) / len(sums) for number in sums]


def wave_of(winding, h):
    """V(h) as a complex number."""
    slots = len(winding[0])
    told = polygons.slot_points(winding)
    return sum(place(point) * root(slots, h * slot) for slot, point in enumerate(told))


class PolygonsTest(unittest.TestCase):
    def setUp(self):
        self.chance = random.Random(36)
        self.some = [FULL, LONE, ((1, -1), (0, 0), (2, -2)), FULL[::-1], (FULL[0],) * 3, (FULL[0], FULL[0], FULL[1])]
        for slots in (2, 3, 4, 6, 9, 12, 59, 60):
            for _ in range(3):
                self.some.append(tuple(any_phase(self.chance, slots, 3) for _ in range(3)))
        self.flat = [((0, 0),) * 3, (FULL[0],) * 3, (any_phase(self.chance, 60, BIG),) * 3]
        self.great = [tuple(any_phase(self.chance, slots, BIG) for _ in range(3)) for slots in (2, 7, 60)]

    def test_points_and_corners_as_they_are_told(self):
        for winding in self.some + self.flat + self.great:
            first, second, third = winding
            slots = len(first)
            told = polygons.slot_points(winding)
            self.assertEqual(told, tuple((first[s] - second[s], third[s] - second[s]) for s in range(slots)))
            corners = polygons.corners(winding)
            self.assertEqual(corners, tuple((sum(a for a, _ in told[:s]), sum(b for _, b in told[:s]))
                                            for s in range(slots)))
            middle = (sum(a for a, _ in corners), sum(b for _, b in corners))
            polygon = polygons.polygon(winding)
            self.assertEqual(polygon, tuple((slots * a - middle[0], slots * b - middle[1]) for a, b in corners))
            self.assertEqual((sum(a for a, _ in polygon), sum(b for _, b in polygon)), (0, 0))
            self.assertIs(polygons.is_flat(winding), not any(any(point) for point in told))

    def test_points_carry_the_field(self):
        for winding in self.some:
            slots = len(winding[0])
            for tau in (0, 0.3, 2, -1.7):
                turn = cmath.exp(1j * tau)
                for load, point in zip(loads_at(winding, tau), polygons.slot_points(winding)):
                    self.assertAlmostEqual(load, (turn * place(point)).real, places=7)
                for field, point in zip(field_at(winding, tau), polygons.polygon(winding)):
                    self.assertAlmostEqual(slots * field, (turn * place(point)).real, places=6)

    def test_mean_square_and_pulse(self):
        for winding in self.some:
            slots = len(winding[0])
            mean = polygons.mean_square(winding)
            waves = sum(abs(wave_of(winding, h)) ** 2 / (2 * slots * math.sin(math.pi * h / slots)) ** 2
                        for h in range(1, slots))
            self.assertAlmostEqual(mean[0] / mean[1], waves, places=6)
            pulse = place(polygons.pulse(winding)) / slots ** 3
            for tau in (0, 0.4, 1.1, 2.9):
                told = sum(number ** 2 for number in field_at(winding, tau)) / slots
                wanted = (mean[0] / mean[1] + (cmath.exp(2j * tau) * pulse).real) / 2
                self.assertAlmostEqual(told, wanted, places=6)

    def test_fractions(self):
        for winding in self.some + self.flat + self.great:
            slots = len(winding[0])
            norms = [points.norm_of(point) for point in polygons.polygon(winding)]
            for told, wanted in ((polygons.mean_square(winding), Fraction(sum(norms), slots ** 3)),
                                 (polygons.peak(winding), Fraction(max(norms), slots ** 2))):
                self.assertEqual(told, (wanted.numerator, wanted.denominator))
            self.assertEqual(polygons.peak_teeth(winding),
                             tuple(tooth for tooth in range(slots) if norms[tooth] == max(norms)))
            squares = [points.point_product(point, point) for point in polygons.polygon(winding)]
            self.assertEqual(polygons.pulse(winding), (sum(a for a, _ in squares), sum(b for _, b in squares)))

    def test_peak_is_the_greatest_field(self):
        for winding in self.some:
            greatest = max(number ** 2 for k in range(720) for number in field_at(winding, k * math.pi / 720))
            above, below = polygons.peak(winding)
            self.assertLessEqual(greatest, above / below + 1e-6)
            self.assertGreaterEqual(greatest, above / below * 0.9999 - 1e-6)

    def test_several_teeth_with_the_greatest_norm(self):
        self.assertEqual(polygons.peak_teeth(FULL), (0, 1, 2, 3, 4, 5))
        self.assertEqual(polygons.peak_teeth(((1, -1), (0, 0), (0, 0))), (0, 1))
        self.assertEqual(polygons.peak_teeth(((1, 0, -1, 0), (0, 0, 0, 0), (0, 0, 0, 0))), (0, 1, 2, 3))
        self.assertEqual(polygons.peak_teeth(((1, -1, 1, -1, 0), (0,) * 5, (0,) * 5)), (1, 3))

    def test_sweep(self):
        for winding in self.some:
            slots = len(winding[0])
            waves = sum(abs(wave_of(winding, h)) ** 2 / math.tan(math.pi * h / slots) for h in range(1, slots))
            told = polygons.sweep(winding)
            self.assertAlmostEqual(told, slots / math.sqrt(3) * waves, delta=1e-6 * max(1, abs(told)))
        for winding in self.some + self.great:
            # Counted the other way round, the polygon sweeps as much, with the other sign.
            self.assertEqual(polygons.sweep(tuple(phase[::-1] for phase in winding)), -polygons.sweep(winding))

    def test_flat_windings(self):
        for winding in self.flat:
            slots = len(winding[0])
            self.assertIs(polygons.is_flat(winding), True)
            self.assertEqual(polygons.polygon(winding), ((0, 0),) * slots)
            self.assertEqual(polygons.mean_square(winding), (0, 1))
            self.assertEqual(polygons.peak(winding), (0, 1))
            self.assertEqual(polygons.peak_teeth(winding), tuple(range(slots)))
            self.assertEqual(polygons.pulse(winding), (0, 0))
            self.assertEqual(polygons.sweep(winding), 0)
        self.assertIs(polygons.is_flat((FULL[0], FULL[0], FULL[1])), False)

    def test_other_numbers_of_phases(self):
        for name in ("slot_points", "corners", "polygon", "is_flat", "mean_square", "peak", "peak_teeth", "pulse",
                     "sweep"):
            call = getattr(polygons, name)
            for many in (1, 2, 4, 5, 6):
                with self.assertRaises(NotThree) as held:
                    call((FULL * 2)[:many])
                self.assertEqual(held.exception.given, many)
            for winding, index in (((), None), (FULL[:1] + ((1, 1),), 1), (FULL * 3, 6), (list(FULL), None)):
                with self.assertRaises(InvalidWinding) as held:
                    call(winding)
                self.assertEqual(held.exception.index, index)


if __name__ == "__main__":
    unittest.main()
