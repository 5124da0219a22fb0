"""Rows without told orders, their base, phases with a harmonic: [12]."""

import random
import unittest
from itertools import combinations, permutations, product
from math import gcd

from makers import BIG, any_row, divisors
from slotstars import harmonics, lattices, rows


def choices_of_orders(slots):
    """All choices of orders."""
    return [orders for many in range(len(divisors(slots)) + 1) for orders in combinations(divisors(slots), many)]


def put_together(base, shares, slots):
    """The sum of the rows of the base with these shares."""
    total = (0,) * slots
    for row, share in zip(base, shares):
        total = rows.added_rows(total, rows.scaled_row(row, share))
    return total


class LatticesTest(unittest.TestCase):
    def setUp(self):
        self.chance = random.Random(13)

    def test_lacks(self):
        for slots in (2, 6, 12, 59, 60):
            for _ in range(3):
                row = any_row(self.chance, slots, 1)
                row = rows.added_rows(row, rows.turned_row(row, slots // 2))
                there = harmonics.orders_there(row)
                for orders in choices_of_orders(slots)[:300]:
                    self.assertEqual(lattices.lacks(row, orders), not set(orders) & set(there))

    def test_base(self):
        for slots in (2, 5, 6, 12, 20):
            for orders in choices_of_orders(slots):
                base = lattices.lacking_base(slots, orders)
                lost = sum(len([k for k in range(order) if gcd(k, order) == 1]) for order in orders)
                self.assertEqual(len(base), slots - lost)
                for place, row in enumerate(base):
                    self.assertEqual(rows.turned_row(base[0], place), row)
                    self.assertTrue(lattices.lacks(row, orders))
                    self.assertEqual(row[place + lost], 1)
                    self.assertEqual(row[place + lost + 1:], (0,) * (slots - place - lost - 1))
                    self.assertEqual(row[:place], (0,) * place)
        self.assertEqual(lattices.lacking_base(6, ())[2], (0, 0, 1, 0, 0, 0))
        self.assertEqual(lattices.lacking_base(60, tuple(reversed(divisors(60)))), ())
        self.assertEqual(lattices.lacking_base(59, (1,)), lattices.lacking_base(59, (1,)))

    def test_orders_in_any_order(self):
        for orders in permutations((1, 2, 3, 6)):
            self.assertEqual(lattices.lacking_base(6, orders), ())
            self.assertEqual(lattices.shares_of((0,) * 6, orders), ())
            self.assertIsNone(lattices.shares_of((1, 0, 0, 0, 0, -1), orders))
            self.assertEqual(lattices.lacking_base(12, orders), lattices.lacking_base(12, (1, 2, 3, 6)))
            self.assertEqual(lattices.phase_with(12, 1, orders), lattices.phase_with(12, 1, (2, 3, 6)))
            self.assertIsNone(lattices.phase_with(6, 1, orders))

    def test_shares_of_all_small_rows(self):
        for slots in (2, 3, 4, 6):
            for row in product((-1, 0, 1), repeat=slots):
                for orders in choices_of_orders(slots):
                    shares = lattices.shares_of(row, orders)
                    self.assertEqual(shares is not None, lattices.lacks(row, orders))
                    if shares is not None:
                        base = lattices.lacking_base(slots, orders)
                        self.assertEqual(len(shares), len(base))
                        self.assertEqual(put_together(base, shares, slots), row)

    def test_shares_come_back(self):
        for slots, orders in ((60, (1, 60)), (60, (60, 4, 1)), (59, (1,)), (24, (24, 2)), (12, ())):
            base = lattices.lacking_base(slots, orders)
            shares = any_row(self.chance, len(base), BIG)
            self.assertEqual(lattices.shares_of(put_together(base, shares, slots), orders), shares)

    def test_phase_with(self):
        for slots in (2, 4, 6, 7, 12, 18):
            for orders in choices_of_orders(slots):
                for harmonic in (0, 1, 2, 3, -1, slots, slots // 2, 5 * slots + 2, BIG):
                    order = harmonics.order_of(slots, harmonic)
                    phase = lattices.phase_with(slots, harmonic, orders)
                    self.assertEqual(phase is None, order == 1 or order in orders)
                    if phase is not None:
                        self.assertTrue(rows.is_phase(phase))
                        self.assertTrue(harmonics.is_there(phase, harmonic))
                        self.assertTrue(lattices.lacks(phase, orders))
                        whole = tuple(sorted({1, *orders}))
                        self.assertEqual(phase, lattices.lacking_base(slots, whole)[0])

    def test_no_phase_with_it_exists(self):
        for slots in (4, 6):
            phases = [row for row in product((-1, 0, 1), repeat=slots) if sum(row) == 0]
            for orders in choices_of_orders(slots):
                for harmonic in range(slots):
                    if lattices.phase_with(slots, harmonic, orders) is None:
                        self.assertFalse([row for row in phases if lattices.lacks(row, orders)
                                          and harmonics.is_there(row, harmonic)])


if __name__ == "__main__":
    unittest.main()
