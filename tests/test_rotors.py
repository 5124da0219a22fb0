"""Rotors: mixed forces and ripples, beside a search through the waves of a rotor: [44]."""

import random
import unittest
from math import gcd

from makers import BIG
from slotstars import rotors, waves
from slotstars.errors import InvalidNumber, InvalidPairs, NotThree
from some_windings import FULL, LONE, SHORT, flat_windings, windings_that_are_not_flat


def field_waves(winding, reach):
    """All waves of the field with no more than so many pairs of poles."""
    slots = len(winding[0])
    there = set(waves.waves(winding))
    return [h for h in range(-reach, reach + 1) if h % slots in there]


def forces_of_rotors(winding, pairs, reach):
    """The lobes and the frequencies of all products of a wave of the rotor with a wave of the field.

    The rotor's wave with m pairs of poles goes round with the wave p, so that it has m / p times the frequency of the
    currents; the product has the lobes m - h and m + h, with the differences and the sums of the frequencies.
    """
    found = set()
    for odd in range(1, 2 * reach, 2):
        for h in field_waves(winding, reach * pairs):
            found.add((odd * pairs - h, odd - 1))
            found.add((odd * pairs + h, odd + 1))
    return found


class RotorsTest(unittest.TestCase):
    def setUp(self):
        self.chance = random.Random(44)
        self.some = windings_that_are_not_flat(self.chance)
        self.small = [winding for winding in self.some if len(winding[0]) <= 9]
        self.flat = flat_windings(self.chance)

    def test_mixed_lobes_beside_a_search(self):
        for winding in self.small:
            slots = len(winding[0])
            for pairs in (1, 2, 3, 4, 6, slots):
                common, told = rotors.mixed_lobes(winding, pairs)
                self.assertEqual(common, gcd(2 * pairs, slots))
                lobes = {d for d, _ in forces_of_rotors(winding, pairs, slots + 1)}
                wanted = {d % common for d in lobes} | {-d % common for d in lobes}
                self.assertEqual(told, tuple(sorted(wanted)))
                # All numbers of such a class are lobes of some force.
                for d in range(-common, common + 1):
                    self.assertEqual(d % common in told, d in lobes or -d in lobes)
                self.assertIs(rotors.mixed_pulls(winding, pairs), 1 in lobes or -1 in lobes)

    def test_ripples_beside_a_search(self):
        for winding in self.small:
            slots = len(winding[0])
            for pairs in (1, 2, 3, slots):
                forces = forces_of_rotors(winding, pairs, 4 * slots)
                frequencies = {frequency for d, frequency in forces if d == 0}
                for many in range(2 * slots):
                    self.assertIs(rotors.is_ripple(winding, pairs, many), 2 * many in frequencies, (winding, pairs, many))

    def test_lobes_beside_their_words(self):
        for winding in self.some + self.flat:
            slots = len(winding[0])
            for pairs in (1, 2, 5, 7, 30, 60):
                common, told = rotors.mixed_lobes(pairs=pairs, winding=winding)
                self.assertEqual(common, gcd(2 * pairs, slots))
                wanted = {(pairs - h) % common for h in waves.waves(winding)}
                self.assertEqual(told, tuple(sorted(wanted | {-d % common for d in wanted})))
                self.assertIs(rotors.mixed_pulls(winding, pairs), 1 % common in told)

    def test_ripples_beside_their_words(self):
        for winding in self.some:
            slots = len(winding[0])
            for pairs in (1, 2, 5, 30, 60):
                rounds, told = rotors.ripples(winding, pairs)
                self.assertEqual(rounds, slots // gcd(2 * pairs, slots))
                wanted = [k for k in range(3 * rounds + 1)
                          if waves.is_wave(winding, pairs + 2 * k * pairs) or waves.is_wave(winding, pairs - 2 * k * pairs)]
                self.assertEqual(told, tuple(k for k in wanted if k < rounds))
                self.assertEqual([k for k in range(3 * rounds + 1) if k % rounds in told], wanted)
                later = [k for k in wanted if k > 0]
                self.assertEqual(rotors.least_ripple(winding, pairs), later[0] if later else None)
                for many in (0, 1, rounds, BIG):
                    self.assertIs(rotors.is_ripple(winding, pairs, many), many % rounds in told)

    def test_edges(self):
        self.assertEqual(rotors.ripples(FULL, 1), (3, (0,)))
        self.assertEqual(rotors.least_ripple(FULL, 1), 3)
        self.assertEqual(rotors.ripples(FULL, 6), (1, ()))
        self.assertIsNone(rotors.least_ripple(FULL, 60))
        self.assertEqual(rotors.mixed_lobes(((1, -1, 0), (0, 0, 0), (0, 0, 0)), 1), (1, (0,)))
        self.assertTrue(rotors.mixed_pulls(((1, -1, 0), (0, 0, 0), (0, 0, 0)), 1))
        self.assertEqual(rotors.mixed_lobes(SHORT, 1), (2, (0, 1)))
        self.assertIs(rotors.is_ripple(FULL, 1, 3 * BIG), True)
        self.assertIs(rotors.is_ripple(many=3 * BIG + 1, pairs=1, winding=FULL), False)
        self.assertIs(rotors.is_ripple(LONE, 1, 1), True)
        for winding in self.flat:
            for pairs in (1, 60):
                self.assertEqual(rotors.mixed_lobes(winding, pairs), (gcd(2 * pairs, len(winding[0])), ()))
                self.assertIs(rotors.mixed_pulls(winding, pairs), False)
                self.assertEqual(rotors.ripples(winding, pairs)[1], ())
                self.assertIsNone(rotors.least_ripple(winding, pairs))
                self.assertIs(rotors.is_ripple(winding, pairs, 0), False)

    def test_errors(self):
        for pairs in (0, 61, -1, True, None, "1", (1,), BIG):
            for call in (rotors.mixed_lobes, rotors.mixed_pulls, rotors.ripples, rotors.least_ripple):
                with self.assertRaises(InvalidPairs) as held:
                    call(FULL[:2], pairs)
                self.assertIs(held.exception.given, pairs)
            with self.assertRaises(InvalidPairs):
                rotors.is_ripple(FULL[:2], pairs, -1)
        for many in (-1, True, False, None, "0", (0,), -BIG):
            with self.assertRaises(InvalidNumber) as held:
                rotors.is_ripple(FULL[:2], 1, many)
            self.assertIs(held.exception.given, many)
        with self.assertRaises(NotThree):
            rotors.is_ripple(FULL[:2], 1, 0)


if __name__ == "__main__":
    unittest.main()
