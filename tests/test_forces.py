"""Standing and beating forces, what beats into them, pulls: [42], [43]."""

import cmath
import math
import random
import unittest
from math import gcd

from makers import BIG, root
from slotstars import forces, harmonics, moments, points, polygons, rows, waves
from slotstars.errors import InvalidMoment, InvalidNumber, NotThree
from some_windings import (
    FULL, LONE, SHORT, alternating, belted, flat_windings, place, windings_that_are_not_flat, with_few_waves,
)


def forces_at(winding, tau):
    """The squares of the fields over the teeth at a moment, an angle."""
    return [((cmath.exp(1j * tau) * place(point)).real) ** 2 for point in polygons.polygon(winding)]


def standing_sum(winding, lobes):
    """The sum of all z^(d s) times the norm of the tooth s, a complex number."""
    slots = len(winding[0])
    return sum(points.norm_of(point) * root(slots, lobes * s) for s, point in enumerate(polygons.polygon(winding)))


def beating_sum(winding, lobes):
    """The sum of all z^(d s) times the square of the point of the tooth s, a complex number."""
    slots = len(winding[0])
    return sum(place(point) ** 2 * root(slots, lobes * s) for s, point in enumerate(polygons.polygon(winding)))


class ForcesTest(unittest.TestCase):
    def setUp(self):
        self.chance = random.Random(42)
        self.some = windings_that_are_not_flat(self.chance)
        self.plain = [winding for winding in self.some if max(map(max, winding)) < 1000]
        self.flat = flat_windings(self.chance)

    def test_rows_of_the_polygon(self):
        for winding in self.some + self.flat:
            polygon = polygons.polygon(winding)
            self.assertEqual(forces.standing_row(winding), tuple(points.norm_of(point) for point in polygon))
            self.assertEqual(forces.beating_points(winding),
                             tuple(points.point_product(point, point) for point in polygon))

    def test_forces_beside_their_sums(self):
        for winding in self.plain:
            slots = len(winding[0])
            reach = sum(forces.standing_row(winding))
            for d in (*range(-slots - 1, slots + 2), 2 * slots, 2 * slots + 1):
                able = d == 0 or d % slots != 0
                wanted = able and abs(standing_sum(winding, d)) > 1e-9 * reach
                self.assertIs(forces.has_standing(winding, d), wanted)
                wanted = able and abs(beating_sum(winding, d)) > 1e-9 * reach
                self.assertIs(forces.has_beating(winding, d), wanted)

    def test_only_the_order_or_the_rest_counts(self):
        for winding in self.some:
            slots = len(winding[0])
            self.assertIs(forces.has_standing(winding, 0), True)
            self.assertIs(forces.has_beating(winding, 0), polygons.pulse(winding) != (0, 0))
            orders, classes = forces.standing_orders(winding), forces.beating_classes(winding)
            self.assertIn(1, orders)
            for d in (1, 2, 3, -1, slots // 2, slots - 1, slots + 1, 1 - slots, BIG * slots + 1, BIG * slots - 2, -BIG):
                if d % slots != 0:
                    self.assertIs(forces.has_standing(winding, d), harmonics.order_of(slots, d) in orders)
                    self.assertIs(forces.has_standing(winding, d), forces.has_standing(winding, -d))
                    self.assertIs(forces.has_standing(winding, d), forces.has_standing(winding, gcd(d, slots)))
                    self.assertIs(forces.has_beating(winding, d), d % slots in classes)
                    self.assertIs(forces.has_beating(lobes=d % slots, winding=winding), d % slots in classes)
            for d in (slots, -slots, BIG * slots):
                self.assertIs(forces.has_standing(winding, d), False)
                self.assertIs(forces.has_beating(winding, d), False)
            self.assertEqual(0 in classes, polygons.pulse(winding) != (0, 0))
            self.assertEqual(classes, tuple(sorted(set(classes))))

    def test_forces_beside_the_waves_that_beat_into_them(self):
        cancelled = 0
        for winding in self.some:
            slots = len(winding[0])
            there = waves.waves(winding)
            differences, sums = forces.beaten_into(winding)
            self.assertEqual(differences, tuple(sorted({(h - k) % slots for h in there for k in there})))
            self.assertEqual(sums, tuple(sorted({(h + k) % slots for h in there for k in there})))
            standing = {d for d in range(slots) if harmonics.order_of(slots, d) in forces.standing_orders(winding)}
            self.assertLessEqual(standing, set(differences))
            self.assertLessEqual(set(forces.beating_classes(winding)), set(sums))
            cancelled += len(differences) - len(standing) + len(sums) - len(forces.beating_classes(winding))
        self.assertGreater(cancelled, 0)

    def test_least_lobes(self):
        seen = set()
        for winding in self.some + self.flat:
            found = [d for d in range(1, 2 * len(winding[0]) + 1)
                     if forces.has_standing(winding, d) or forces.has_beating(winding, d)
                     or forces.has_beating(winding, -d)]
            self.assertEqual(forces.least_lobes(winding), found[0] if found else None)
            seen.add(forces.least_lobes(winding))
        self.assertIsNone(forces.least_lobes(((1, -1), (0, 0), (0, 0))))
        self.assertIsNone(forces.least_lobes(alternating(60)))
        self.assertEqual(forces.least_lobes(belted(24, 4)), 8)
        few = with_few_waves()
        self.assertEqual(waves.waves(few), (4, 5, 11))
        self.assertEqual(forces.beaten_into(few), ((0, 1, 5, 6, 7, 11), (3, 4, 8, 9, 10)))
        self.assertEqual(forces.least_lobes(few), 1)
        self.assertEqual(forces.pulls(few), (True, False))
        self.assertLessEqual({None, 1, 2}, seen)

    def test_flat_windings(self):
        for winding in self.flat:
            self.assertEqual(forces.standing_orders(winding), ())
            self.assertEqual(forces.beating_classes(winding), ())
            self.assertEqual(forces.beaten_into(winding), ((), ()))
            self.assertIsNone(forces.least_lobes(winding))
            self.assertEqual(forces.pulls(winding), (False, False))
            for d in (0, 1, -2, BIG):
                self.assertIs(forces.has_standing(winding, d), False)
                self.assertIs(forces.has_beating(winding, d), False)
            for moment in range(12):
                self.assertIs(forces.is_pulled_at(winding, moment), False)

    def test_force_on_a_tooth(self):
        for winding in self.plain[:12]:
            for tau in (0, 0.4, 1.9, 3):
                for force, norm, point in zip(forces_at(winding, tau), forces.standing_row(winding),
                                              forces.beating_points(winding)):
                    self.assertAlmostEqual(force, norm / 2 + (cmath.exp(2j * tau) * place(point)).real / 2, places=5)

    def test_pulled_at_beside_the_squares_of_the_field(self):
        for winding in self.plain:
            slots = len(winding[0])
            reach = sum(forces.standing_row(winding))
            for moment in range(12):
                total = sum(force * root(slots, s) for s, force in
                            enumerate(forces_at(winding, math.pi * moment / 6)))
                told = forces.is_pulled_at(winding, moment)
                self.assertIs(told, abs(total) > 1e-9 * reach)
                squares = tuple(number ** 2 for number in moments.field_at(winding, moment))
                self.assertIs(told, harmonics.is_there(squares, 1))
                self.assertIs(told, forces.is_pulled_at(winding, (moment + 6) % 12))

    def test_pulls_beside_the_moments(self):
        seen = set()
        for winding in self.some + self.flat:
            told = forces.pulls(winding)
            self.assertEqual(told, (forces.has_standing(winding, 1),
                                    forces.has_beating(winding, 1) or forces.has_beating(winding, -1)))
            seen.add(told)
            pulled = [moment for moment in range(6) if forces.is_pulled_at(winding, moment)]
            if any(told):
                self.assertGreaterEqual(len(pulled), 4)
            else:
                self.assertEqual(pulled, [])
        self.assertEqual(seen, {(False, False), (False, True), (True, False), (True, True)})

    def test_moments_without_a_pull(self):
        # One phase alone carries nothing at the moment at which its current is 0.
        self.assertEqual([forces.is_pulled_at(LONE, moment) for moment in range(6)], [True] * 3 + [False] + [True] * 2)
        self.assertEqual(forces.pulls(SHORT), (False, True))
        self.assertEqual(forces.pulls(FULL), (False, False))

    def test_turned_and_mirrored_windings(self):
        for winding in self.some:
            slots = len(winding[0])
            turned = tuple(rows.turned_row(phase, 3) for phase in winding)
            mirrored = tuple(rows.mirrored_row(phase) for phase in winding)
            for other in (turned, mirrored):
                self.assertEqual(forces.standing_orders(other), forces.standing_orders(winding))
                self.assertEqual(forces.least_lobes(other), forces.least_lobes(winding))
                self.assertEqual(forces.pulls(other), forces.pulls(winding))
            self.assertEqual(forces.beating_classes(turned), forces.beating_classes(winding))
            self.assertEqual(forces.beating_classes(mirrored),
                             tuple(sorted(-d % slots for d in forces.beating_classes(winding))))

    def test_errors(self):
        for call in (forces.has_standing, forces.has_beating):
            for lobes in (True, None, "1", (1,), []):
                with self.assertRaises(InvalidNumber) as held:
                    call(FULL[:2], lobes)
                self.assertIs(held.exception.given, lobes)
            with self.assertRaises(NotThree):
                call(FULL[:2], 6)
        for moment in (-1, 12, True, None):
            with self.assertRaises(InvalidMoment):
                forces.is_pulled_at(FULL[:2], moment)
        with self.assertRaises(NotThree):
            forces.is_pulled_at(FULL[:2], 0)


if __name__ == "__main__":
    unittest.main()
