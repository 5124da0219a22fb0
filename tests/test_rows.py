"""Slots, rows, phases, windings, coils: [9], and the differences of [11]."""

import random
import unittest

from makers import BIG, any_phase, any_row
from slotstars import rows
from slotstars.errors import InvalidCoils
from wrong_values import KINDS, WRONG_COILS, WRONG_PHASES, WRONG_ROWS


class KindsTest(unittest.TestCase):
    def test_is_row_and_is_phase(self):
        for slots in (2, 3, 59, 60):
            self.assertTrue(rows.is_row((BIG,) * slots))
            self.assertFalse(rows.is_phase((BIG,) * slots))
            self.assertTrue(rows.is_phase((0,) * slots))
            self.assertTrue(rows.is_phase((BIG, -BIG) + (0,) * (slots - 2)))
        for value in WRONG_ROWS:
            self.assertIs(rows.is_row(value), False)
        for value in WRONG_PHASES:
            self.assertIs(rows.is_phase(value), False)

    def test_is_winding(self):
        for slots in (2, 60):
            for many in range(1, 7):
                self.assertTrue(rows.is_winding(((0,) * slots,) * many))
            self.assertFalse(rows.is_winding(((0,) * slots,) * 7))
        for value, _ in KINDS["winding"][1]:
            self.assertIs(rows.is_winding(value), False)

    def test_is_coil(self):
        for value in ((0, 0, 1, 1), (5, 59, 0, -BIG), (2, 0, 59, BIG)):
            self.assertTrue(rows.is_coil(value))
        for value in WRONG_COILS:
            self.assertIs(rows.is_coil(value), False)


class CoilsTest(unittest.TestCase):
    def setUp(self):
        self.chance = random.Random(9)

    def test_winding_of(self):
        self.assertEqual(rows.winding_of((), 2, 1), ((0, 0),))
        self.assertEqual(rows.winding_of((), 60, 6), ((0,) * 60,) * 6)
        self.assertEqual(rows.winding_of(((1, 1, 0, BIG), (1, 1, 0, 1)), 2, 2), ((0, 0), (-BIG - 1, BIG + 1)))
        self.assertEqual(rows.winding_of(((0, 0, 1, 1),) * 60, 3, 1), ((60, -60, 0),))
        self.assertEqual(rows.winding_of(((0, 0, 1, 1), (0, 1, 0, 1)), 3, 1), ((0, 0, 0),))
        for _ in range(20):
            slots, phases = self.chance.randint(2, 60), self.chance.randint(1, 6)
            coils, wanted = [], [[0] * slots for _ in range(phases)]
            for _ in range(self.chance.randint(0, 60)):
                phase, turns = self.chance.randrange(phases), self.chance.choice((-2, -1, 1, 2, BIG))
                start, end = self.chance.sample(range(slots), 2)
                coils.append((phase, start, end, turns))
                wanted[phase][start] += turns
                wanted[phase][end] -= turns
            winding = rows.winding_of(tuple(coils), slots, phases)
            self.assertEqual(winding, tuple(tuple(row) for row in wanted))
            self.assertTrue(rows.is_winding(winding))

    def test_sixty_coils_and_sixty_one(self):
        with self.assertRaises(InvalidCoils) as raised:
            rows.winding_of(((0, 0, 1, 1),) * 61, 3, 1)
        self.assertEqual(raised.exception.index, 60)
        # The coils are checked by themselves first, the ones that are not there last.
        with self.assertRaises(InvalidCoils) as raised:
            rows.winding_of(((1, 0, 1, 1),) * 61, 3, 1)
        self.assertEqual(raised.exception.index, 60)

    def test_coils_that_are_not_there(self):
        good = (0, 0, 1, 1)
        for bad in ((3, 0, 1, 1), (0, 10, 1, 1), (0, 1, 10, 1), (5, 59, 58, 1)):
            for place in range(4):
                coils = (good,) * place + (bad, bad)
                with self.assertRaises(InvalidCoils) as raised:
                    rows.winding_of(coils, 10, 3)
                self.assertEqual(raised.exception.index, place)
        self.assertTrue(rows.winding_of(((2, 9, 0, 1),), 10, 3))

    def test_each_phase_is_that_of_some_coils(self):
        for slots in (2, 3, 7, 30, 59, 60):
            told = [any_phase(self.chance, slots), any_phase(self.chance, slots, BIG), (0,) * slots,
                    (1,) + (0,) * (slots - 2) + (-1,)]
            for phase in told:
                coils = rows.some_coils(phase)
                self.assertLessEqual(len(coils), 60)
                self.assertTrue(all(rows.is_coil(coil) and coil[0] == 0 for coil in coils))
                self.assertEqual(rows.winding_of(coils, slots, 1), (phase,))


class ChangesTest(unittest.TestCase):
    def setUp(self):
        self.chance = random.Random(10)

    def test_turned_and_mirrored(self):
        for slots in (2, 3, 10, 59, 60):
            row = any_row(self.chance, slots, BIG)
            for turn in (0, 1, -1, slots, slots + 1, -5 * slots - 2, BIG, -BIG):
                turned = rows.turned_row(row, turn)
                self.assertEqual(turned, tuple(row[(s - turn) % slots] for s in range(slots)))
                self.assertEqual(rows.turned_row(turned, -turn), row)
            mirrored = rows.mirrored_row(row)
            self.assertEqual(mirrored, tuple(row[-s % slots] for s in range(slots)))
            self.assertEqual(rows.mirrored_row(mirrored), row)
            self.assertEqual(rows.mirrored_row(rows.turned_row(row, 1)), rows.turned_row(mirrored, -1))

    def test_added_and_scaled(self):
        for slots in (2, 31, 60):
            row, other = any_row(self.chance, slots, BIG), any_row(self.chance, slots)
            self.assertEqual(rows.added_rows(row, other), tuple(a + b for a, b in zip(row, other)))
            for many in (0, 1, -1, 7, BIG):
                self.assertEqual(rows.scaled_row(row, many), tuple(a * many for a in row))
            self.assertEqual(rows.added_rows(row, rows.scaled_row(row, -1)), (0,) * slots)

    def test_conductors_and_differences(self):
        for slots in (2, 9, 60):
            row = any_row(self.chance, slots, BIG)
            self.assertEqual(rows.conductors_of(row), sum(max(a, -a) for a in row))
            self.assertEqual(rows.differences_of(row), tuple(
                sum(row[s] * row[(s + d) % slots] for s in range(slots)) for d in range(slots)))
            for turn in (1, -3):
                self.assertEqual(rows.differences_of(rows.turned_row(row, turn)), rows.differences_of(row))
            self.assertEqual(rows.differences_of(rows.mirrored_row(row)), rows.differences_of(row))
        self.assertEqual(rows.differences_of((1, 2, 0)), (5, 2, 2))
        self.assertEqual(rows.conductors_of((0, 0)), 0)


if __name__ == "__main__":
    unittest.main()
