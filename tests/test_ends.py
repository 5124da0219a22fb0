"""Distances, flows, levels, the least ends, the shortest coils: [34]."""

import random
import unittest
from heapq import heappop, heappush
from itertools import combinations

from makers import BIG, all_phases, any_phase
from slotstars import ends, rows
from slotstars.errors import InvalidCoils, InvalidSlot


def steps_between(slots, slot, other):
    """The number of steps round the shorter way, found by walking both ways."""
    forward = next(k for k in range(slots) if (slot + k) % slots == other)
    return min(forward, slots - forward)


def least_by_search(slots, reach):
    """The least ends of coils, of one turn each, for all phases that are made on the way."""
    best = {}
    queue = [(0, (0,) * slots)]
    while queue:
        cost, phase = heappop(queue)
        if phase in best:
            continue
        best[phase] = cost
        for start, end in combinations(range(slots), 2):
            for sign in (1, -1):
                row = list(phase)
                row[start] += sign
                row[end] -= sign
                if max(map(abs, row)) <= reach and tuple(row) not in best:
                    heappush(queue, (cost + steps_between(slots, start, end), tuple(row)))
    return best


class EndsTest(unittest.TestCase):
    def setUp(self):
        self.chance = random.Random(34)

    def some_phases(self):
        for slots in (2, 3, 4, 5):
            yield from all_phases(slots)
        for slots in (2, 3, 6, 7, 12, 31, 59, 60):
            yield (0,) * slots
            yield (1,) + (0,) * (slots - 2) + (-1,)
            yield tuple((1, -1)[k % 2] for k in range(slots - slots % 2)) + (0,) * (slots % 2)
            yield (1,) * (slots // 2) + (0,) * (slots % 2) + (-1,) * (slots // 2)
            yield (2,) * (slots // 2) + (0,) * (slots % 2) + (-2,) * (slots // 2)
            for reach in (1, 2, 9, BIG):
                for _ in range(4):
                    yield any_phase(self.chance, slots, reach)

    def test_distance(self):
        for slots in (2, 3, 6, 7, 59, 60):
            for slot in range(0, slots, 1 + slots // 9):
                for other in range(slots):
                    self.assertEqual(ends.distance(slots, slot, other), steps_between(slots, slot, other))
                    self.assertEqual(ends.distance(other=slot, slot=other, slots=slots),
                                     ends.distance(slots, slot, other))
            for wrong in (-1, slots):
                self.assertRaises(InvalidSlot, ends.distance, slots, 0, wrong)
                self.assertRaises(InvalidSlot, ends.distance, slots, wrong, 0)
        self.assertEqual(ends.distance(60, 0, 30), 30)

    def test_flow_and_levels(self):
        two, one = 0, 0
        for phase in self.some_phases():
            sums = ends.flow(phase)
            self.assertEqual(sums, tuple(sum(phase[:slot]) for slot in range(len(phase))))
            least, greatest = ends.levels(phase)
            two += least < greatest
            one += least == greatest
            best = sum(abs(number - least) for number in sums)
            self.assertEqual(ends.least_ends(phase), best)
            self.assertEqual(sum(abs(number - greatest) for number in sums), best)
            middle = (least + greatest) // 2
            self.assertEqual(sum(abs(number - middle) for number in sums), best)
            for beyond in (least - 1, greatest + 1):
                self.assertGreater(sum(abs(number - beyond) for number in sums), best)
        self.assertGreater(two, 20)
        self.assertGreater(one, 20)

    def test_least_ends_against_a_search(self):
        for slots, reach in ((2, 4), (3, 3), (4, 3), (5, 2), (6, 2)):
            best = least_by_search(slots, reach)
            for phase, cost in best.items():
                if max(map(abs, phase)) < reach:
                    self.assertEqual(ends.least_ends(phase), cost)

    def test_short_coils(self):
        for phase in self.some_phases():
            coils = ends.short_coils(phase)
            self.assertLessEqual(len(coils), 60)
            self.assertTrue(all(rows.is_coil(coil) for coil in coils))
            self.assertEqual(rows.winding_of(coils, len(phase), 1), (phase,))
            self.assertEqual(sum(steps_between(len(phase), start, end) * abs(turns) for _, start, end, turns in coils),
                             ends.least_ends(phase))
            self.assertEqual(ends.ends_of(coils, len(phase)), ends.least_ends(phase))
            self.assertIs(ends.are_shortest(coils, len(phase)), True)
        self.assertEqual(ends.short_coils((0,) * 60), ())
        for _ in range(200):
            self.assertLessEqual(len(ends.short_coils(any_phase(self.chance, 60, self.chance.choice((1, 9, BIG))))), 60)

    def test_ends_of_and_shortest(self):
        short, long = 0, 0
        for slots in (2, 3, 6, 9, 60):
            for many in (0, 1, 2, 3, 8, 60):
                for _ in range(6):
                    coils = tuple((self.chance.randrange(6), *self.chance.sample(range(slots), 2),
                                   self.chance.choice((1, -1, 2, -BIG))) for _ in range(many))
                    told = sum(steps_between(slots, start, end) * abs(turns) for _, start, end, turns in coils)
                    self.assertEqual(ends.ends_of(coils, slots), told)
                    least = sum(ends.least_ends(phase) for phase in rows.winding_of(coils, slots, 6))
                    self.assertIs(ends.are_shortest(coils, slots), told == least)
                    short += told == least
                    long += told > least
        self.assertGreater(short, 20)
        self.assertGreater(long, 20)
        # Each phase by itself: what one takes back does not help the other one.
        self.assertIs(ends.are_shortest(((0, 0, 1, 1), (1, 0, 1, -1)), 6), True)
        self.assertIs(ends.are_shortest(((0, 0, 1, 1), (0, 0, 1, -1)), 6), False)
        self.assertEqual(ends.ends_of((), 2), 0)
        self.assertIs(ends.are_shortest((), 2), True)

    def test_bounds_of_coils(self):
        coils = ((5, 0, 1, 1),) * 60
        self.assertEqual(ends.ends_of(coils, 2), 60)
        self.assertIs(ends.are_shortest(coils, 2), True)
        for call in (ends.ends_of, ends.are_shortest):
            with self.assertRaises(InvalidCoils) as held:
                call(coils + coils[:1], 2)
            self.assertEqual(held.exception.index, 60)
            with self.assertRaises(InvalidCoils) as held:
                call(coils[:59] + ((0, 0, 2, 1),), 2)
            self.assertEqual(held.exception.index, 59)


if __name__ == "__main__":
    unittest.main()
