"""Repeats, the class of the waves, mirrors: [40]."""

import random
import unittest
from math import gcd, lcm

from makers import BIG, divisors
from slotstars import points, polygons, roots, rows, symmetries, waves
from slotstars.errors import InvalidNumber, InvalidWinding, NotThree
from some_windings import FULL, LONE, SHORT, flat_windings, windings_that_are_not_flat


def is_repeat_of_points(winding, turn, sixths):
    """Whether (turn, sixths) is a repeat, told by the points."""
    told = polygons.slot_points(winding)
    slots = len(told)
    return all(told[(k + turn) % slots] == points.turned_point(told[k], sixths) for k in range(slots))


def is_repeat_of_waves(winding, turn, sixths):
    """Whether (turn, sixths) is a repeat, told by the waves."""
    slots = len(winding[0])
    return all((6 * h * turn + sixths * slots) % (6 * slots) == 0 for h in waves.waves(winding))


def mirrors_of_points(winding):
    """All mirrors, told by the points."""
    told = polygons.slot_points(winding)
    slots = len(told)
    return tuple((s, j) for s in range(slots) for j in range(6)
                 if all(told[(s - k) % slots] == points.turned_point(points.mirrored_point(told[k]), j)
                        for k in range(slots)))


def is_mirror_of_waves(sums, slots, first, sixths):
    """Whether (first, sixths) is a mirror, told by the waves, V(h) for all h from 0 on."""
    for h, number in enumerate(sums):
        order = lcm(number[0], 6)
        square = roots.led_up(roots.product(number, number), order)
        size = roots.led_up(roots.size_of(number), order)
        if square != roots.times_root(size, order // slots * h * first + order // 6 * sixths):
            return False
    return True


class SymmetriesTest(unittest.TestCase):
    def setUp(self):
        self.chance = random.Random(40)
        self.some = windings_that_are_not_flat(self.chance)
        self.flat = flat_windings(self.chance)

    def test_repeats_beside_the_points_and_the_waves(self):
        found = 0
        for winding in self.some + self.flat:
            slots = len(winding[0])
            turns = range(-slots, 2 * slots + 1) if slots <= 12 else (0, 1, 5, 12, 20, slots // 2, slots, -10)
            for turn in turns:
                for sixths in range(-1, 7):
                    wanted = is_repeat_of_points(winding, turn, sixths)
                    self.assertEqual(wanted, is_repeat_of_waves(winding, turn, sixths))
                    self.assertIs(symmetries.is_repeat(winding, turn, sixths), wanted)
                    found += wanted
        self.assertGreater(found, 100)

    def test_great_turns(self):
        for turn, sixths in ((1, 5), (-1, 1), (2, 4), (3, -3), (0, 0)):
            for rounds in (BIG, -BIG, 1):
                self.assertIs(symmetries.is_repeat(FULL, turn + 6 * rounds, sixths - 6 * rounds), True)
                self.assertIs(symmetries.is_repeat(sixths=sixths + 1 + 6 * rounds, turn=turn, winding=FULL), False)

    def test_least_repeat(self):
        for winding in self.some:
            slots = len(winding[0])
            turn, sixths = symmetries.least_repeat(winding)
            found = [(s, j) for s in range(1, slots + 1) for j in range(6) if is_repeat_of_points(winding, s, j)]
            self.assertEqual((turn, sixths), found[0])
            self.assertEqual([pair for pair in found if pair[0] == turn], [(turn, sixths)])
            self.assertEqual(slots % turn, 0)
        for winding in self.flat:
            self.assertIsNone(symmetries.least_repeat(winding))
        self.assertEqual(symmetries.least_repeat(((1, -1), (0, 0), (0, 0))), (1, 3))

    def test_class_of_waves_beside_all_divisors(self):
        seen = set()
        for winding in self.some:
            slots = len(winding[0])
            told = waves.waves(winding)
            many = max(n for n in divisors(slots) if len({h % n for h in told}) == 1)
            self.assertEqual(symmetries.class_of_waves(winding), (many, told[0] % many))
            turn, sixths = symmetries.least_repeat(winding)
            self.assertEqual((many, told[0] % many), (slots // turn, -sixths * many // 6 % many))
            self.assertEqual(sixths * many % 6, 0)
            seen.add(many)
        self.assertGreater(len(seen), 5)
        for winding in self.flat:
            self.assertIsNone(symmetries.class_of_waves(winding))

    def test_mirrors_beside_the_points(self):
        seen = set()
        for winding in self.some + self.flat:
            told = symmetries.mirrors(winding)
            self.assertEqual(told, mirrors_of_points(winding))
            seen.add(len(told))
        for winding in self.flat:
            self.assertEqual(len(symmetries.mirrors(winding)), 6 * len(winding[0]))
        self.assertIn(0, seen)
        self.assertGreater(len(seen), 5)

    def test_mirrors_beside_the_waves(self):
        for winding in self.some + self.flat[:2]:
            slots = len(winding[0])
            told = symmetries.mirrors(winding)
            sums = [waves.wave(winding, h) for h in range(slots)]
            firsts = range(slots) if slots <= 9 else sorted({s for s, _ in told[:4]} | {0, 1})
            for first in firsts:
                for sixths in range(6):
                    self.assertIs((first, sixths) in told, is_mirror_of_waves(sums, slots, first, sixths))

    def test_mirrors_differ_by_repeats(self):
        for winding in self.some:
            told = symmetries.mirrors(winding)
            repeat = symmetries.least_repeat(winding)
            self.assertIn(len(told), (0, len(winding[0]) // repeat[0]))
            for s, j in told:
                self.assertTrue(symmetries.is_repeat(winding, s - told[0][0], j - told[0][1]))

    def test_turned_and_mirrored_windings(self):
        for winding in self.some:
            for turn in (1, -3):
                turned = tuple(rows.turned_row(phase, turn) for phase in winding)
                self.assertEqual(symmetries.least_repeat(turned), symmetries.least_repeat(winding))
                self.assertEqual(symmetries.class_of_waves(turned), symmetries.class_of_waves(winding))
                slots = len(winding[0])
                wanted = sorted(((s + 2 * turn) % slots, j) for s, j in symmetries.mirrors(winding))
                self.assertEqual(symmetries.mirrors(turned), tuple(wanted))
            many, rest = symmetries.class_of_waves(winding)
            mirrored = tuple(rows.mirrored_row(phase) for phase in winding)
            self.assertEqual(symmetries.class_of_waves(mirrored), (many, -rest % many))
            self.assertEqual(gcd(many, len(winding[0])), many)

    def test_told_values(self):
        self.assertEqual(symmetries.mirrors(LONE), ((1, 3),))
        self.assertEqual(symmetries.mirrors(SHORT), ((0, 5), (2, 3), (4, 1)))
        self.assertEqual(symmetries.least_repeat(SHORT), (2, 4))
        self.assertEqual(symmetries.class_of_waves(LONE), (1, 0))

    def test_errors(self):
        for values, error, given in (((FULL[:2], 1, 1), NotThree, 2), ((FULL[:2], True, 1), InvalidNumber, True),
                                     ((FULL, 1, None), InvalidNumber, None), ((FULL[:2], "1", None), InvalidNumber, "1")):
            with self.assertRaises(error) as held:
                symmetries.is_repeat(*values)
            self.assertIs(held.exception.given, given)
        with self.assertRaises(InvalidWinding):
            symmetries.is_repeat((), None, None)


if __name__ == "__main__":
    unittest.main()
