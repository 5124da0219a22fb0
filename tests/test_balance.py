"""Rates, balance, what unbalances, for which numbers a balanced winding exists: [13] to [15]."""

import random
import unittest
from itertools import combinations, permutations, product
from math import gcd

from makers import BIG, RATES, all_phases, any_phase, divisors, root, worth
from slotstars import balance, harmonics, lattices, rows
from wrong_values import WRONG_RATES

SIX = ((1, 0, 0, -1, 0, 0), (0, 0, 1, 0, 0, -1), (0, -1, 0, 0, 1, 0))


def copied(phase, turn, sign, phases):
    """A winding whose phases are turned and multiplied copies of one."""
    return tuple(rows.scaled_row(rows.turned_row(phase, turn * k), sign if k % 2 else 1) for k in range(phases))


def rates_by_numbers(winding, harmonic):
    """The rates that follow from complex numbers."""
    sums = [worth(harmonics.takes_up(phase, harmonic)) for phase in winding]
    if abs(sums[0]) < 1e-9:
        return []
    told = [(1, 0)] if len(winding) == 1 else RATES
    return [(m, j) for m, j in told
            if all(abs(right - root(m, j) * left) < 1e-7 for left, right in zip(sums, sums[1:]))]


class RatesTest(unittest.TestCase):
    def setUp(self):
        self.chance = random.Random(14)

    def test_is_rate(self):
        for m in range(-1, 9):
            for j in range(-2, 9):
                self.assertIs(balance.is_rate((m, j)), (m, j) in RATES)
        for value in WRONG_RATES:
            self.assertIs(balance.is_rate(value), False)

    def test_rate_at_and_is_balanced(self):
        told = [SIX, SIX[:2], SIX[:1], SIX[::-1], ((0,) * 6,) * 3, ((0,) * 6,) + SIX, SIX + ((0,) * 6,)]
        for slots in (2, 3, 5, 6, 9, 10, 12, 59, 60):
            for phases in range(1, 7):
                turn, sign = self.chance.randrange(slots), self.chance.choice((1, -1))
                told.append(copied(any_phase(self.chance, slots), turn, sign, phases))
                told.append(tuple(any_phase(self.chance, slots, 1) for _ in range(phases)))
        for m, j in RATES:
            told.append(copied(any_phase(self.chance, 60), 60 // m * j, 1, 4))
        for winding in told:
            for harmonic in (0, 1, 2, 3, 5, -1, len(winding[0])):
                wanted = rates_by_numbers(winding, harmonic)
                self.assertLessEqual(len(wanted), 1)
                self.assertEqual(balance.rate_at(winding, harmonic), wanted[0] if wanted else None)
                for rate in RATES:
                    self.assertIs(balance.is_balanced(winding, harmonic, rate), rate in wanted)
                self.assertEqual(balance.rate_at(winding, harmonic + BIG * len(winding[0])),
                                 wanted[0] if wanted else None)

    def test_each_rate(self):
        for rate in RATES:
            winding = copied((1, -1) + (0,) * 58, 60 // rate[0] * rate[1], 1, 6)
            self.assertEqual(balance.rate_at(winding, 1), rate)
            self.assertIsNone(balance.unbalancing_harmonic(winding))
        # Roots of the orders 7, 8, 10 are no rates.
        for slots in (7, 8, 10, 12, 60):
            winding = copied((1, -1) + (0,) * (slots - 2), 1, 1, 2)
            self.assertIsNone(balance.rate_at(winding, 1))
            self.assertEqual(balance.unbalancing_harmonic(winding), 1)

    def test_one_phase_and_phases_of_noughts(self):
        lone = ((1, -1, 0, 0),)
        for harmonic in (1, 2, 3, -1, 5):
            self.assertEqual(balance.rate_at(lone, harmonic), (1, 0))
        for harmonic in (0, 4, -4 * BIG):
            self.assertIsNone(balance.rate_at(lone, harmonic))
        self.assertIsNone(balance.unbalancing_harmonic(lone))
        noughts = (0,) * 4
        self.assertIsNone(balance.unbalancing_harmonic((noughts,)))
        self.assertIsNone(balance.unbalancing_harmonic((noughts,) * 6))
        self.assertEqual(balance.unbalancing_harmonic((noughts, lone[0])), 1)
        self.assertEqual(balance.unbalancing_harmonic((lone[0], noughts)), 1)
        self.assertEqual(balance.unbalancing_harmonic((noughts, (1, -1, 1, -1))), 2)

    def test_great_numbers(self):
        winding = tuple(rows.scaled_row(phase, BIG) for phase in SIX)
        self.assertEqual(balance.rate_at(winding, 1), (3, 1))
        spoiled = winding[:2] + (rows.added_rows(winding[2], (1, -1, 0, 0, 0, 0)),)
        self.assertIsNone(balance.rate_at(spoiled, 1))
        self.assertEqual(balance.unbalancing_harmonic(spoiled), 1)


class LawsTest(unittest.TestCase):
    def setUp(self):
        self.chance = random.Random(15)

    def some_windings(self):
        for slots in (3, 5, 6, 9, 12, 15, 30):
            for phases in (2, 3, 4, 6):
                for reach in (1, 3):
                    phase = any_phase(self.chance, slots, reach)
                    yield copied(phase, self.chance.randrange(slots), self.chance.choice((1, -1)), phases)

    def test_sum_of_all_phases(self):
        for winding in self.some_windings():
            for harmonic in range(len(winding[0])):
                rate = balance.rate_at(winding, harmonic)
                if rate is not None and rate[0] > 1 and len(winding) % rate[0] == 0:
                    total = tuple(sum(numbers) for numbers in zip(*winding))
                    self.assertFalse(harmonics.is_there(total, harmonic))

    def test_other_harmonics_of_the_order(self):
        for winding in self.some_windings():
            slots = len(winding[0])
            for harmonic in range(slots):
                rate = balance.rate_at(winding, harmonic)
                order = harmonics.order_of(slots, harmonic)
                for u in range(1, 4 * slots, 2):
                    if gcd(u, order) > 1:
                        continue
                    if rate is None:
                        self.assertIsNone(balance.rate_at(winding, u * harmonic))
                    elif gcd(u, rate[0]) == 1:
                        self.assertEqual(balance.rate_at(winding, u * harmonic), (rate[0], u * rate[1] % rate[0]))

    def test_least_unbalancing_harmonic(self):
        told = list(self.some_windings())
        told += [tuple(any_phase(self.chance, slots, 1) for _ in range(2)) for slots in (2, 3, 4, 6, 8, 12, 16)]
        told += [winding[:1] + winding[:1] + winding[1:2] for winding in told]
        for winding in told:
            slots = len(winding[0])
            wanted = [h for h in range(1, slots) if balance.rate_at(winding, h) is None
                      and any(harmonics.is_there(phase, h) for phase in winding)]
            found = balance.unbalancing_harmonic(winding)
            self.assertEqual(found, wanted[0] if wanted else None)
            if wanted:
                self.assertEqual(slots % found, 0)
        # Only the second harmonic, of the order 6, has the third phase out of place.
        even = lattices.phase_with(12, 2, (2, 3, 4, 12))
        winding = (even, rows.turned_row(even, 4), rows.turned_row(even, 5))
        self.assertEqual(balance.unbalancing_harmonic(winding), 2)

    def test_nothing_is_asked_of_the_last_and_the_first(self):
        # A third of a turn, for two phases and for four.
        phase = SIX[0]
        self.assertEqual(balance.rate_at((phase, SIX[1]), 1), (3, 1))
        self.assertEqual(balance.rate_at(SIX + (phase,), 1), (3, 1))


class ExistenceTest(unittest.TestCase):
    def test_rule(self):
        for slots in range(2, 61):
            for harmonic in (0, 1, 2, 3, 4, 5, slots // 2, slots, -3, BIG):
                order = slots // gcd(slots, harmonic)
                for m, j in RATES:
                    can = order > 1 and (order % m == 0 or order % 2 == 1 and 2 * order % m == 0)
                    for phases in (2, 6):
                        self.assertIs(balance.can_balance(slots, phases, harmonic, (m, j)), can)
                    self.assertIs(balance.can_balance(slots, 1, harmonic, (m, j)), order > 1 and m == 1)

    def test_against_all_pairs_of_phases(self):
        for slots, reach in ((2, 4), (3, 3), (4, 1), (5, 1)):
            phases = all_phases(slots, reach)
            for harmonic in range(slots):
                found = {balance.rate_at(winding, harmonic) for winding in product(phases, repeat=2)} - {None}
                self.assertEqual(found, {rate for rate in RATES if balance.can_balance(slots, 2, harmonic, rate)})

    def test_against_all_triples_of_phases(self):
        phases = all_phases(3, 1)
        for harmonic in (1, 2, 3):
            found = {balance.rate_at(winding, harmonic) for winding in product(phases, repeat=3)} - {None}
            self.assertEqual(found, {rate for rate in RATES if balance.can_balance(3, 3, harmonic, rate)})

    def assert_balanced(self, winding, slots, phases, harmonic, rate, barred):
        self.assertTrue(rows.is_winding(winding))
        self.assertEqual((len(winding), len(winding[0])), (phases, slots))
        self.assertTrue(balance.is_balanced(winding, harmonic, rate))
        for phase in winding:
            self.assertTrue(lattices.lacks(phase, barred))

    def test_balanced_winding(self):
        for slots in (2, 3, 5, 6, 8, 9, 10, 12, 30, 59, 60):
            for harmonic in (0, 1, 2, 3, -4, slots, 2 * slots + 1):
                for rate in RATES:
                    for phases in (1, 2, 3, 6):
                        can = balance.can_balance(slots, phases, harmonic, rate)
                        winding = balance.balanced_winding(slots, phases, harmonic, rate)
                        self.assertEqual(winding is not None, can)
                        if can:
                            self.assert_balanced(winding, slots, phases, harmonic, rate, ())

    def test_barred_orders(self):
        for slots in (4, 6, 9, 12):
            for many in range(len(divisors(slots)) + 1):
                for orders in combinations(divisors(slots), many):
                    barred = self.mixed(orders)
                    for harmonic in (0, 1, 2, 3, 4):
                        for rate in ((1, 0), (2, 1), (3, 2), (4, 1), (6, 1)):
                            can = balance.can_balance(slots, 3, harmonic, rate)
                            can = can and harmonics.order_of(slots, harmonic) not in orders
                            winding = balance.balanced_winding(slots, 3, harmonic, rate, barred)
                            self.assertEqual(winding is not None, can)
                            if can:
                                self.assert_balanced(winding, slots, 3, harmonic, rate, orders)
        for barred in permutations((2, 3, 1)):
            self.assertIsNotNone(balance.balanced_winding(6, 2, 1, (6, 1), barred=barred))
            self.assertIsNone(balance.balanced_winding(6, 2, 1, (6, 1), barred=barred + (6,)))

    def mixed(self, orders):
        return tuple(orders[1::2] + orders[::2][::-1])


if __name__ == "__main__":
    unittest.main()
