"""Steps, copies, full windings and their number: [16] to [18]."""

import random
import unittest
from itertools import product

from makers import BIG, RATES, all_phases, any_phase, root
from slotstars import balance, copies, harmonics, rows
from slotstars.errors import InvalidStep

SIX = ((1, 0, 0, -1, 0, 0), (0, 0, 1, 0, 0, -1), (0, -1, 0, 0, 1, 0))
NINE = ((2, 0, 1, 0, -2, -1, 1, -1, 0), (0, 1, -1, 1, 2, 0, -1, 0, -2), (-2, -1, 0, -1, 0, 1, 0, 1, 2))


def steps(slots):
    """All steps, ascending."""
    return [(s, e) for s in range(slots) for e in (-1, 1)]


def stepped(row, step):
    """The row turned and multiplied."""
    return tuple(step[1] * row[(k - step[0]) % len(row)] for k in range(len(row)))


def copied(phase, phases, step):
    """The winding of the copies; None if they do not lead back."""
    winding = [phase]
    for _ in range(phases - 1):
        winding.append(stepped(winding[-1], step))
    return tuple(winding) if stepped(winding[-1], step) == phase else None


def full_by_search(slots, phases, conductors, step):
    """All full windings that have the step, by a search through all first phases."""
    found = []
    for phase in all_phases(slots, conductors):
        winding = copied(phase, phases, step)
        if winding and all(sum(abs(number) for number in slot) == conductors for slot in zip(*winding)):
            found.append(winding)
    return found


class StepsTest(unittest.TestCase):
    def setUp(self):
        self.chance = random.Random(16)

    def some_windings(self):
        for slots in (2, 3, 4, 6, 10, 12):
            for phases in range(1, 7):
                for step in steps(slots):
                    phase = rows.added_rows(*[any_phase(self.chance, slots, 1) for _ in range(2)])
                    # The sum of all copies of a phase comes again after the steps, if these come round at all.
                    total, row = (0,) * slots, phase
                    for _ in range(2 * slots):
                        total = rows.added_rows(total, row)
                        for _ in range(phases):
                            row = stepped(row, step)
                    for told in (phase, total):
                        winding = copied(told, phases, step)
                        self.assertEqual(copies.copied_winding(told, phases, step), winding)
                        if winding is not None:
                            yield winding

    def test_steps_of(self):
        self.assertEqual(copies.steps_of(NINE), ())
        self.assertEqual(copies.steps_of(((0,) * 60,) * 6), tuple(steps(60)))
        self.assertEqual(copies.steps_of(((0, 0),)), ((0, -1), (0, 1), (1, -1), (1, 1)))
        self.assertEqual(copies.steps_of(((1, -1),)), ((0, 1), (1, -1)))
        self.assertEqual(copies.steps_of(((1, -1), (-1, 1))), ((0, -1), (1, 1)))
        self.assertEqual(copies.steps_of(SIX[:2]), ())
        for winding in self.some_windings():
            slots = len(winding[0])
            wanted = [step for step in steps(slots)
                      if all(stepped(winding[k - 1], step) == winding[k] for k in range(len(winding)))]
            self.assertEqual(copies.steps_of(winding), tuple(wanted))

    def test_laws_of_steps(self):
        for winding in self.some_windings():
            slots, phases = len(winding[0]), len(winding)
            told = copies.steps_of(winding)
            self.assertGreater(len(told), 0)
            self.assertIsNone(balance.unbalancing_harmonic(winding))
            for step in told:
                for harmonic in range(slots):
                    if harmonics.is_there(winding[0], harmonic):
                        rate = copies.rate_of_step(slots, harmonic, step)
                        if phases > 1:
                            self.assertEqual(balance.rate_at(winding, harmonic), rate)
                        self.assertEqual(phases % rate[0], 0)
            for s, e in told[:3]:
                for t, f in told[-3:]:
                    self.assertEqual(stepped(winding[0], (s - t, e * f)), winding[0])

    def test_rate_of_step(self):
        for slots in (2, 3, 4, 5, 6, 7, 8, 9, 10, 12, 59, 60):
            for step in steps(slots):
                for harmonic in (0, 1, 2, 3, -1, slots, slots // 2, BIG):
                    number = step[1] * root(slots, harmonic * step[0])
                    wanted = [(m, j) for m, j in RATES if abs(root(m, j) - number) < 1e-9]
                    self.assertEqual(copies.rate_of_step(slots, harmonic, step), wanted[0] if wanted else None)

    def test_steps_of_other_slots(self):
        for step in ((6, 1), (59, 1), (-1, 1)):
            with self.assertRaises(InvalidStep) as raised:
                copies.copied_winding(SIX[0], 3, step)
            self.assertEqual(raised.exception.given, step)
            with self.assertRaises(InvalidStep):
                copies.has_full(6, 3, 1, step)
            with self.assertRaises(InvalidStep):
                copies.count_full(6, 3, step)
        self.assertEqual(copies.rate_of_step(60, 1, (59, 1)), None)
        self.assertEqual(copies.copied_winding((0,) * 60, 6, (59, -1)), ((0,) * 60,) * 6)


class FullTest(unittest.TestCase):
    def test_is_full(self):
        for conductors in range(1, 61):
            self.assertIs(copies.is_full(SIX, conductors), conductors == 1)
            winding = tuple(rows.scaled_row(phase, -conductors) for phase in SIX)
            self.assertTrue(copies.is_full(winding, conductors))
            self.assertFalse(copies.is_full(winding + (SIX[0],), conductors))
        self.assertFalse(copies.is_full(NINE, 2))
        self.assertTrue(copies.is_full(((2, -2), (-1, 1)), 3))
        self.assertFalse(copies.is_full(((0, 0),), 1))

    def test_against_all_first_phases(self):
        told = [(slots, q) for slots in (2, 3, 4, 5) for q in (1, 2, 3)] + [(6, 1), (6, 2), (8, 1), (9, 1)]
        for slots, conductors in told:
            for phases in (1, 2, 3, 4, 6) if slots < 8 else (2, 3):
                for step in steps(slots):
                    found = full_by_search(slots, phases, conductors, step)
                    self.assertIs(copies.has_full(slots, phases, conductors, step), len(found) > 0)
                    if conductors == 1:
                        self.assertEqual(copies.count_full(slots, phases, step), len(found))

    def test_full_steps_against_all_first_phases(self):
        for slots, conductors in ((2, 1), (2, 2), (3, 2), (4, 1), (4, 2), (5, 2), (6, 1), (6, 2)):
            for phases in (1, 2, 3, 4):
                found = {step: full_by_search(slots, phases, conductors, step) for step in steps(slots)}
                for harmonic in range(slots + 1):
                    for rate in RATES:
                        wanted = [step for step in steps(slots)
                                  if any(balance.rate_at(winding, harmonic) == rate for winding in found[step])]
                        self.assertEqual(copies.full_steps(slots, phases, conductors, harmonic, rate), tuple(wanted))

    def test_full_winding(self):
        for slots in (2, 3, 4, 6, 8, 9, 10, 12, 15, 24, 45, 59, 60):
            for phases, conductors in product(range(1, 7), (1, 2, 3, 4, 60)):
                for harmonic in (1, 2, -3, slots, slots + slots // 2):
                    for rate in RATES[:4] + RATES[-2:]:
                        told = copies.full_steps(slots, phases, conductors, harmonic, rate)
                        winding = copies.full_winding(slots, phases, conductors, harmonic, rate)
                        self.assertEqual(winding is None, told == ())
                        if winding is not None:
                            self.assertEqual((len(winding), len(winding[0])), (phases, slots))
                            self.assertTrue(rows.is_winding(winding))
                            self.assertTrue(copies.is_full(winding, conductors))
                            self.assertTrue(balance.is_balanced(winding, harmonic, rate))
                            self.assertTrue(set(copies.steps_of(winding)) & set(told))

    def test_there_is_a_full_winding_for_each_step(self):
        # The rule: each step with a full winding has one that is balanced, if the root fits the number of phases.
        for slots in (4, 6, 9, 12):
            for phases, conductors in product((1, 2, 3, 6), (1, 2, 4)):
                for step in steps(slots):
                    if copies.has_full(slots, phases, conductors, step):
                        for harmonic in range(1, slots):
                            rate = copies.rate_of_step(slots, harmonic, step)
                            if rate is not None and phases % rate[0] == 0:
                                self.assertIn(step, copies.full_steps(slots, phases, conductors, harmonic, rate))

    def test_great_counts(self):
        self.assertEqual(copies.count_full(60, 6, (10, 1)), 6 ** 10 * 252)
        self.assertEqual(copies.count_full(60, 1, (0, 1)), 118264581564861424)
        self.assertEqual(copies.count_full(60, 1, (0, -1)), 0)
        self.assertEqual(copies.count_full(60, 3, (10, -1)), 6 ** 10)
        self.assertEqual(copies.count_full(60, 5, (12, 1)), 5 ** 12 * 924)
        self.assertEqual(copies.count_full(60, 5, (12, -1)), 0)
        self.assertEqual(copies.count_full(59, 2, (1, 1)), 0)


if __name__ == "__main__":
    unittest.main()
