"""Starts and spans, what a span kills, laps, the fewest starts: [31], [32]."""

import random
import unittest
from itertools import product
from math import gcd

from makers import BIG, any_phase, any_row, divisors
from slotstars import harmonics, lattices, roots, rows, spans
from slotstars.errors import InvalidBelts, InvalidSpan


def wound(starts, span):
    """The phase of so many coils from each slot to that a span further on, coil by coil."""
    phase = [0] * len(starts)
    for slot, many in enumerate(starts):
        phase[slot] += many
        phase[(slot + span) % len(starts)] -= many
    return tuple(phase)


def lone(slots):
    """The starts of one coil, in the slot 0."""
    return (1,) + (0,) * (slots - 1)


class SpansTest(unittest.TestCase):
    def setUp(self):
        self.chance = random.Random(31)

    def test_phases_and_laps(self):
        for slots in (2, 3, 6, 7, 12, 59, 60):
            for span in sorted({1, 2, slots // 2, slots - 2, slots - 1} & set(range(1, slots))):
                belts = tuple(any_row(self.chance, slots, reach) for reach in (0, 1, 5, BIG, 2, 3))
                for starts in belts:
                    phase = spans.span_phase(starts, span)
                    self.assertEqual(phase, wound(starts, span))
                    self.assertTrue(rows.is_phase(phase))
                for many in range(1, 7):
                    winding = spans.lap(belts[:many], span)
                    self.assertEqual(winding, tuple(wound(starts, span) for starts in belts[:many]))
                    self.assertTrue(rows.is_winding(winding))
                with self.assertRaises(InvalidBelts) as held:
                    spans.lap(belts + belts[:1], span)
                self.assertEqual(held.exception.index, 6)
            for span in (0, -1, slots, slots + 1):
                self.assertRaises(InvalidSpan, spans.span_phase, belts[1], span)
                self.assertRaises(InvalidSpan, spans.lap, belts, span)
                self.assertRaises(InvalidSpan, spans.span_kills, slots, span)

    def test_what_the_phase_takes_up(self):
        for slots in (2, 5, 6, 12, 15, 60):
            starts = any_row(self.chance, slots)
            for span in {1, slots // 2, slots - 1, self.chance.randrange(1, slots)}:
                phase = spans.span_phase(starts, span)
                for h in (0, 1, -1, 2, slots, slots + 3, BIG):
                    factor = roots.subtracted(roots.sum_of(slots, (1,)),
                                              roots.times_root(roots.sum_of(slots, (1,)), h * span))
                    wanted = roots.product(harmonics.takes_up(starts, h), factor)
                    self.assertEqual(harmonics.takes_up(phase, h), wanted)

    def test_kills(self):
        for slots in (2, 3, 6, 8, 12, 30, 59, 60):
            for span in range(1, slots):
                killed = harmonics.orders_gone(wound(lone(slots), span))
                self.assertEqual(spans.span_kills(slots, span), killed)
                self.assertEqual(killed, tuple(order for order in divisors(slots) if span % order == 0))

    def test_spans_that_kill_all_orders(self):
        for slots in (2, 3, 6, 12, 13, 30, 60):
            told = divisors(slots)
            some = [(), (1,), tuple(told), tuple(reversed(told[:-1]))] + [(order,) for order in told]
            some += [tuple(self.chance.sample(told, self.chance.randint(0, len(told)))) for _ in range(6)]
            for orders in some:
                wanted = [span for span in range(1, slots) if lattices.lacks(wound(lone(slots), span), orders)]
                self.assertEqual(spans.spans_without(slots, orders), tuple(wanted))
                for h in (0, 1, 2, -3, slots, BIG):
                    self.assertEqual(spans.best_spans(slots, h, orders), self.best(slots, h, wanted))

    def best(self, slots, h, told):
        """Those of the told spans that leave the most of the harmonic."""
        one = roots.sum_of(slots, (1,))
        sizes = {span: roots.size_of(roots.subtracted(one, roots.times_root(one, h * span))) for span in told}
        left = [span for span in told if any(sizes[span][1])]
        return tuple(span for span in left
                     if all(roots.compare_real(sizes[span], sizes[other]) >= 0 for other in left))


class StartsTest(unittest.TestCase):
    def setUp(self):
        self.chance = random.Random(32)

    def test_fewest_starts_against_a_search(self):
        for slots in (2, 3, 4, 5, 6):
            for span in range(1, slots):
                by_phase = {}
                for starts in product(range(-2, 3), repeat=slots):
                    by_phase.setdefault(wound(starts, span), []).append(starts)
                several = 0
                for phase, told in by_phase.items():
                    if not any(max(starts) <= 1 and min(starts) >= -1 for starts in told):
                        continue
                    least = min(sum(map(abs, starts)) for starts in told)
                    fewest = [starts for starts in told if sum(map(abs, starts)) == least]
                    several += len(fewest) > 1
                    greatest = tuple(max(numbers) for numbers in zip(*fewest))
                    self.assertEqual(spans.starts_of(phase, span), greatest)
                    self.assertIn(greatest, fewest)
                    for starts in told[:4]:
                        self.assertIs(spans.is_fewest(starts, span), starts in fewest)
                self.assertIs(several > 0, (slots // gcd(slots, span)) % 2 == 0)

    def test_phases_of_no_starts(self):
        for slots in (2, 3, 4, 5, 6):
            for span in range(1, slots):
                common = gcd(slots, span)
                for phase in product((-1, 0, 1, 2), repeat=slots):
                    if sum(phase) != 0:
                        continue
                    starts = spans.starts_of(phase, span)
                    there = all(sum(phase[first::common]) == 0 for first in range(common))
                    self.assertIs(starts is not None, there)
                    self.assertIs(there, lattices.lacks(phase, spans.span_kills(slots, span)))
                    if there:
                        self.assertEqual(wound(starts, span), phase)
                        self.assertTrue(spans.is_fewest(starts, span))

    def test_many_slots_and_great_numbers(self):
        for slots in (2, 7, 12, 59, 60):
            for span in {1, 2, slots // 2, slots - 1} & set(range(1, slots)):
                for reach in (1, 4, BIG):
                    starts = any_row(self.chance, slots, reach)
                    phase = wound(starts, span)
                    fewest = spans.starts_of(phase, span)
                    self.assertEqual(wound(fewest, span), phase)
                    self.assertTrue(spans.is_fewest(fewest, span))
                    least = sum(map(abs, fewest))
                    self.assertIs(spans.is_fewest(starts, span), sum(map(abs, starts)) == least)
                    common = gcd(slots, span)
                    for first in range(common):
                        for change in (1, -1):
                            other = list(fewest)
                            for slot in range(first, slots, common):
                                other[slot] += change
                            self.assertGreaterEqual(sum(map(abs, other)), least + (change == 1))
        self.assertEqual(spans.starts_of((0,) * 60, 7), (0,) * 60)
        self.assertIsNone(spans.starts_of(any_phase(self.chance, 60, BIG), 30))


if __name__ == "__main__":
    unittest.main()
