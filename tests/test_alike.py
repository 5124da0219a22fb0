"""Kinds of currents, windings that are alike, at all harmonics and at one, turns: [19] to [21]."""

import random
import unittest

from makers import BIG, RATES, all_phases, any_phase, divisors, root, worth
from slotstars import alike, harmonics, rows
from slotstars.errors import InvalidCurrents
from wrong_values import KINDS

SIX = ((1, 0, 0, -1, 0, 0), (0, 0, 1, 0, 0, -1), (0, -1, 0, 0, 1, 0))
EVEN = [("even", rate) for rate in RATES]
ALL_KINDS = ["any", "closed"] + EVEN


def some_currents(kind, phases):
    """Currents of the kind of which all others are made."""
    units = [[1 if k == j else 0 for k in range(phases)] for j in range(phases)]
    if kind == "any":
        return units
    if kind == "closed":
        return [[a - b for a, b in zip(units[j], units[0])] for j in range(1, phases)]
    m, j = kind[1]
    return [[(root(m, j * k) * start).real for k in range(phases)] for start in (1, 1j)]


def put(winding, currents):
    """What the currents put into the slots."""
    return [sum(current * number for current, number in zip(currents, slot)) for slot in zip(*winding)]


def taken(slots, harmonic):
    """What these slots take up of the harmonic."""
    return sum(number * root(len(slots), harmonic * s) for s, number in enumerate(slots))


def less(winding, other):
    """The rows of one winding less those of the other one."""
    return [tuple(a - b for a, b in zip(left, right)) for left, right in zip(winding, other)]


def alike_by_numbers(winding, other, kind):
    """Whether all currents of the kind put the same into the slots."""
    rest = less(winding, other)
    return all(abs(number) < 1e-7 for currents in some_currents(kind, len(rest)) for number in put(rest, currents))


def alike_at_by_numbers(winding, other, kind, harmonic):
    """Whether what all currents of the kind put into the slots takes up the same of the harmonic."""
    rest = less(winding, other)
    return all(abs(taken(put(rest, currents), harmonic)) < 1e-7 for currents in some_currents(kind, len(rest)))


def turned(winding, turn):
    """The winding with all phases turned."""
    return tuple(rows.turned_row(phase, turn) for phase in winding)


def changed_by(chance, winding, change):
    """The winding with a phase added to all, to one, or so that the even currents of an order do not feel it."""
    slots, phases = len(winding[0]), len(winding)
    more = any_phase(chance, slots, 1)
    shares = {
        "same": [0] * phases, "all": [1] * phases, "one": [1] + [0] * (phases - 1),
        "two": [(-1) ** k for k in range(phases)], "three": [(1, 1, 1)[k % 3] if k < phases // 3 * 3 else 0
                                                             for k in range(phases)],
        "four": [(1, 0, 1, 0)[k] if k < 4 and phases >= 4 else 0 for k in range(phases)],
        "six": [(1, -1, 1)[k] if k < 3 and phases >= 3 else 0 for k in range(phases)],
        "pair": [1, 1] + [0] * (phases - 2) if phases > 1 else [0],
    }[change]
    return tuple(rows.added_rows(phase, rows.scaled_row(more, share)) for phase, share in zip(winding, shares))


def some_pairs(chance):
    """Pairs of windings, many of them alike for some kind."""
    for slots in (2, 3, 4, 6, 9, 10):
        for phases in range(1, 7):
            winding = tuple(any_phase(chance, slots, 2) for _ in range(phases))
            for change in ("same", "all", "one", "two", "three", "four", "six", "pair"):
                yield winding, changed_by(chance, winding, change)


class KindsTest(unittest.TestCase):
    def test_is_currents(self):
        for kind in ALL_KINDS:
            self.assertIs(alike.is_currents(kind), True)
        for value, _ in KINDS["currents"][1]:
            self.assertIs(alike.is_currents(value), False)


class AlikeTest(unittest.TestCase):
    def setUp(self):
        self.chance = random.Random(19)

    def test_are_alike(self):
        seen = set()
        for winding, other in some_pairs(self.chance):
            for kind in ALL_KINDS:
                told = alike.are_alike(winding, other, kind)
                self.assertIs(told, alike_by_numbers(winding, other, kind))
                self.assertIs(told, alike.are_alike(other, winding, kind))
                seen.add((kind, told))
        self.assertEqual(len(seen), 2 * len(ALL_KINDS))

    def test_at_a_harmonic(self):
        for winding, other in some_pairs(self.chance):
            slots = len(winding[0])
            for kind in ["any", "closed"] + self.chance.sample(EVEN, 4):
                told = [alike.are_alike_at(winding, other, kind, h) for h in range(slots)]
                self.assertEqual(told, [alike_at_by_numbers(winding, other, kind, h) for h in range(slots)])
                self.assertTrue(told[0])
                self.assertIs(all(told), alike.are_alike(winding, other, kind))
                self.assertEqual(alike.unlike_harmonic(winding, other, kind), None if all(told) else told.index(False))
                for harmonic in (slots, -1, slots + 1, 2 - BIG * slots):
                    self.assertIs(alike.are_alike_at(winding, other, kind, harmonic), told[harmonic % slots])
                if isinstance(kind, str):
                    for h in range(slots):
                        self.assertIs(told[h], told[slots // harmonics.order_of(slots, h) % slots])

    def test_against_all_pairs_of_few(self):
        told = all_phases(3, 1)
        for first in told:
            for second in told:
                for kind in ALL_KINDS:
                    noughts = ((0,) * 3,) * 2
                    self.assertIs(alike.are_alike((first, second), noughts, kind),
                                  alike_by_numbers((first, second), noughts, kind))
                    found = [h for h in range(1, 3) if not alike_at_by_numbers((first, second), noughts, kind, h)]
                    self.assertEqual(alike.unlike_harmonic((first, second), noughts, kind), found[0] if found else None)

    def test_sixty_slots(self):
        phases = tuple(any_phase(self.chance, 60, BIG) for _ in range(6))
        more = any_phase(self.chance, 60, BIG)
        other = tuple(rows.added_rows(phase, more) for phase in phases)
        for kind in ALL_KINDS:
            # The sum 1 + r + r r + .. of six numbers is 0 for the orders 2, 3, 6 alone.
            same = kind == "closed" or kind in EVEN and kind[1][0] in (2, 3, 6)
            self.assertIs(alike.are_alike(phases, other, kind), same)
            self.assertEqual(alike.unlike_harmonic(phases, other, kind), None if same else 1)

    def test_at_one_harmonic_the_turn_of_the_rate_counts(self):
        # What the phases take up is real, and 1 + r x + r r is 0 for x = - r - 1 / r: at 1 for j = 1, at 2 for j = 2.
        first = (2, -1, 0, 0, -1)
        second = rows.scaled_row(rows.added_rows(rows.turned_row(first, 1), rows.turned_row(first, -1)), -1)
        noughts = ((0,) * 5,) * 3
        for harmonic in range(1, 5):
            for j in range(1, 5):
                told = alike.are_alike_at((first, second, first), noughts, ("even", (5, j)), harmonic)
                self.assertIs(told, j in (harmonic, 5 - harmonic))
        for j, harmonic in ((1, 2), (2, 1), (3, 1), (4, 2)):
            kind = ("even", (5, j))
            self.assertFalse(alike.are_alike((first, second, first), noughts, kind))
            self.assertEqual(alike.unlike_harmonic((first, second, first), noughts, kind), harmonic)


class PartingTest(unittest.TestCase):
    def setUp(self):
        self.chance = random.Random(21)

    def test_parting_currents(self):
        for winding, other in some_pairs(self.chance):
            for kind in ("any", "closed"):
                currents = alike.parting_currents(winding, other, kind)
                self.assertEqual(currents is None, alike_by_numbers(winding, other, kind))
                if currents is not None:
                    self.assertIsInstance(currents, tuple)
                    self.assertEqual(len(currents), len(winding))
                    self.assertTrue(all(isinstance(current, int) for current in currents))
                    self.assertNotEqual(put(winding, currents), put(other, currents))
                    if kind == "closed":
                        self.assertEqual(sum(currents), 0)
        for kind in EVEN:
            with self.assertRaises(InvalidCurrents) as raised:
                alike.parting_currents(SIX, SIX[:2], kind)
            self.assertIs(raised.exception.given, kind)

    def test_one_phase(self):
        for phase in (SIX[0], (0,) * 6):
            self.assertIsNone(alike.parting_currents((SIX[0],), (phase,), "closed"))
            self.assertTrue(alike.are_alike((SIX[0],), (phase,), "closed"))
        self.assertEqual(alike.alike_turns((SIX[0],), (SIX[1],), "closed"), tuple(range(6)))

    def test_turns(self):
        for slots in (2, 3, 4, 6, 12):
            for phases in (1, 2, 3):
                winding = tuple(any_phase(self.chance, slots, 1) for _ in range(phases))
                round_again = tuple(rows.added_rows(phase, rows.turned_row(phase, slots // 2)) for phase in winding)
                mirrored = tuple(rows.mirrored_row(phase) for phase in winding)
                for one in (winding, round_again, ((0,) * slots,) * phases):
                    for two in (one, turned(one, 1), mirrored):
                        for kind in ("any", "closed", ("even", (3, 1)), ("even", (2, 1)), ("even", (4, 3))):
                            self.assert_turns(one, two, kind)

    def assert_turns(self, winding, other, kind):
        slots = len(winding[0])
        told = alike.alike_turns(winding, other, kind)
        self.assertEqual(told, tuple(t for t in range(slots) if alike_by_numbers(winding, turned(other, t), kind)))
        own = alike.alike_turns(other, other, kind)
        if winding == other:
            self.assertIn(told, [tuple(range(0, slots, part)) for part in divisors(slots)])
        elif told:
            self.assertEqual(told, tuple(sorted((told[0] + t) % slots for t in own)))

    def test_sums_of_what_is_taken_up(self):
        # The law of even currents: the sum of all r^k times what each phase takes up is 0 for h and - h.
        for winding, other in list(some_pairs(self.chance))[:120]:
            rest = less(winding, other)
            slots = len(winding[0])
            m, j = self.chance.choice(RATES)
            for harmonic in range(slots):
                wanted = all(abs(sum(root(m, j * k) * worth(harmonics.takes_up(row, h))
                                     for k, row in enumerate(rest))) < 1e-7 for h in (harmonic, -harmonic))
                self.assertIs(alike.are_alike_at(winding, other, ("even", (m, j)), harmonic), wanted)


if __name__ == "__main__":
    unittest.main()
