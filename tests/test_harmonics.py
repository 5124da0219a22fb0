"""Harmonics, orders, sizes: [10] and [11]."""

import random
import unittest
from math import gcd

from makers import BIG, any_phase, any_row, root, worth
from slotstars import harmonics, roots, rows

SLOTS = (2, 3, 4, 6, 7, 12, 18, 30, 59, 60)


def harmonics_of(slots):
    """Harmonics of all kinds."""
    return (0, 1, -1, 2, slots - 1, slots, -slots, slots + 1, 7 * slots, 7 * slots + 3, BIG, -BIG, BIG * slots)


class TakesUpTest(unittest.TestCase):
    def setUp(self):
        self.chance = random.Random(11)

    def test_order_of(self):
        for slots in range(2, 61):
            for harmonic in harmonics_of(slots):
                self.assertEqual(harmonics.order_of(slots, harmonic), slots // gcd(harmonic, slots))
            self.assertEqual(harmonics.order_of(slots, 0), 1)

    def test_what_is_taken_up(self):
        for slots in SLOTS:
            row = any_row(self.chance, slots)
            for harmonic in harmonics_of(slots):
                taken = harmonics.takes_up(row, harmonic)
                self.assertTrue(roots.is_sum(taken))
                self.assertEqual(taken[0], slots)
                wanted = sum(number * root(slots, harmonic * s) for s, number in enumerate(row))
                self.assertAlmostEqual(abs(worth(taken) - wanted), 0, delta=1e-6)
                self.assertEqual(harmonics.is_there(row, harmonic), any(taken[1]))

    def test_laws(self):
        for slots in SLOTS:
            row = any_row(self.chance, slots, BIG)
            for harmonic in harmonics_of(slots):
                taken = harmonics.takes_up(row, harmonic)
                self.assertEqual(harmonics.takes_up(row, harmonic + slots), taken)
                self.assertEqual(harmonics.takes_up(row, -harmonic), roots.conjugate(taken))
                self.assertEqual(harmonics.takes_up(rows.mirrored_row(row), harmonic), roots.conjugate(taken))
                for turn in (1, -2, slots + 5):
                    self.assertEqual(harmonics.takes_up(rows.turned_row(row, turn), harmonic),
                                     roots.times_root(taken, harmonic * turn))
                self.assertEqual(harmonics.size_at(row, harmonic), roots.size_of(taken))

    def test_orders(self):
        for slots in SLOTS:
            told = [any_phase(self.chance, slots, 1), any_row(self.chance, slots, 1), (0,) * slots, (1,) * slots,
                    (1, -1) * (slots // 2) + (0,) * (slots % 2)]
            told.append(tuple(rows.added_rows(told[0], rows.turned_row(told[0], slots // 2))))
            for row in told:
                there = {harmonics.order_of(slots, h) for h in range(slots) if any(harmonics.takes_up(row, h)[1])}
                gone = {harmonics.order_of(slots, h) for h in range(slots) if not any(harmonics.takes_up(row, h)[1])}
                self.assertEqual(harmonics.orders_there(row), tuple(sorted(there)))
                self.assertEqual(harmonics.orders_gone(row), tuple(sorted(gone)))
                self.assertFalse(there & gone)
                if rows.is_phase(row):
                    self.assertIn(1, gone)
        self.assertEqual(harmonics.orders_there((0,) * 60), ())
        self.assertEqual(harmonics.orders_gone((1,) * 6), (2, 3, 6))


class SizesTest(unittest.TestCase):
    def setUp(self):
        self.chance = random.Random(12)

    def test_size_is_the_sum_of_the_differences(self):
        for slots in SLOTS:
            row = any_row(self.chance, slots, BIG)
            self.assertEqual([harmonics.size_at(row, h) for h in range(slots)],
                             [harmonics.takes_up(rows.differences_of(row), h) for h in range(slots)])

    def test_compare_sizes(self):
        for slots in SLOTS:
            row, other = any_row(self.chance, slots), any_row(self.chance, slots)
            for harmonic, twin in ((0, 0), (1, 1), (1, 2), (3, -1), (slots, 5)):
                left = abs(worth(harmonics.takes_up(row, harmonic))) ** 2
                right = abs(worth(harmonics.takes_up(other, twin))) ** 2
                if abs(left - right) > 1e-3:
                    self.assertEqual(harmonics.compare_sizes(row, harmonic, other, twin), 1 if left > right else -1)
                self.assertEqual(harmonics.compare_sizes(row, harmonic, row, -harmonic), 0)
                self.assertEqual(harmonics.compare_sizes(row, harmonic, other, twin),
                                 -harmonics.compare_sizes(other, twin, row, harmonic))
        self.assertEqual(harmonics.compare_sizes((BIG, 0, 0), 1, (BIG + 1, 1, 1), 1), 0)
        self.assertEqual(harmonics.compare_sizes((BIG, 0, 0), 1, (BIG + 2, 1, 1), 1), -1)

    def test_same_sizes_of_rows_that_are_no_copies(self):
        row, other = (1, 1, 0, 1, 1, 0, 0, 0), (1, 1, 1, 0, 0, 1, 0, 0)
        copies = [rows.turned_row(one, t) for t in range(8) for one in (row, rows.mirrored_row(row))]
        self.assertNotIn(other, copies)
        self.assertTrue(harmonics.same_sizes(row, other))
        self.assertIsNone(harmonics.parting_size(row, other))
        self.assertEqual(harmonics.parting_harmonic(row, other), 1)

    def test_parting(self):
        for slots in SLOTS:
            for reach in (1, BIG):
                row, other = any_row(self.chance, slots, reach), any_row(self.chance, slots, reach)
                pairs = [(row, other), (row, row), (row, rows.turned_row(row, 1)), (row, rows.mirrored_row(row)),
                         (row, rows.scaled_row(row, -1)), (row, rows.added_rows(row, (0,) * (slots - 2) + (1, -1))),
                         (row, rows.added_rows(row, (1, -1) * (slots // 2) + (0,) * (slots % 2)))]
                for one, two in pairs:
                    unlike = [h for h in range(slots) if harmonics.takes_up(one, h) != harmonics.takes_up(two, h)]
                    sizes = [h for h in range(slots) if harmonics.size_at(one, h) != harmonics.size_at(two, h)]
                    self.assertEqual(harmonics.parting_harmonic(one, two), unlike[0] if unlike else None)
                    self.assertEqual(harmonics.parting_size(one, two), sizes[0] if sizes else None)
                    self.assertEqual(unlike == [], one == two)
                    self.assertEqual(harmonics.same_sizes(one, two), sizes == [])
        self.assertEqual(harmonics.parting_harmonic((1, 0, 0), (0, 0, 0)), 0)
        self.assertEqual(harmonics.parting_size((1, -1, 1, -1), (0, 0, 0, 0)), 2)


if __name__ == "__main__":
    unittest.main()
