"""Points of the third part of a turn: products, turns, mirrors, norms: [35]."""

import random
import unittest

from makers import BIG, root
from slotstars import points


def place(point):
    """The point as a complex number."""
    return point[0] + point[1] * root(3, 1)


class PointsTest(unittest.TestCase):
    def setUp(self):
        chance = random.Random(35)
        self.some = [(a, b) for a in range(-3, 4) for b in range(-3, 4)]
        self.some += [(chance.randint(-99, 99), chance.randint(-99, 99)) for _ in range(20)]
        self.great = [(BIG, -BIG), (-BIG, BIG - 1), (0, BIG), (BIG, 0), (1 - BIG, 1 - BIG)]

    def test_as_complex_numbers(self):
        for point in self.some:
            self.assertAlmostEqual(place(points.mirrored_point(point)), place(point).conjugate(), places=6)
            self.assertAlmostEqual(points.norm_of(point), abs(place(point)) ** 2, places=6)
            for sixths in range(-13, 14):
                turned = place(point) * root(6, sixths)
                self.assertAlmostEqual(place(points.turned_point(point, sixths)), turned, places=6)
            for other in self.some:
                told = points.point_product(point, other)
                self.assertAlmostEqual(place(told), place(point) * place(other), places=6)

    def test_great_numbers(self):
        for point in self.great + self.some:
            a, b = point
            self.assertEqual(points.norm_of(point), a * a - a * b + b * b)
            self.assertEqual(points.turned_point(point, 1), (a - b, a))
            self.assertEqual(points.turned_point(point, 3), (-a, -b))
            self.assertEqual(points.turned_point(point, -1), (b, b - a))
            self.assertEqual(points.turned_point(sixths=6 * BIG + 1, point=point), (a - b, a))
            self.assertEqual(points.turned_point(point, -6 * BIG), point)
            self.assertEqual(points.mirrored_point(point), (a - b, -b))
            self.assertEqual(points.mirrored_point(points.mirrored_point(point)), point)
            self.assertEqual(points.point_product(point, points.mirrored_point(point)), (points.norm_of(point), 0))
            for other in self.great:
                c, d = other
                wanted = (a * c - b * d, a * d + b * c - b * d)
                self.assertEqual(points.point_product(point, other), wanted)
                self.assertEqual(points.point_product(other=point, point=other), wanted)
                self.assertEqual(points.norm_of(wanted), points.norm_of(point) * points.norm_of(other))


if __name__ == "__main__":
    unittest.main()
