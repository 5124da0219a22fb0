"""Tests, their readings, findings and what they leave, what no test parts, the fewest tests: [26], [27]."""

import random
import unittest
from itertools import combinations, product
from math import gcd, isqrt

from makers import BIG, any_phase, worth
from slotstars import harmonics, readings, roots, rows, wrongs
from slotstars.errors import InvalidFindings, InvalidTest, InvalidTests
from test_wrongs import all_tests, any_coils

SIX = ((1, 0, 0, -1, 0, 0), (0, 0, 1, 0, 0, -1), (0, -1, 0, 0, 1, 0))


def summed(winding, signs):
    """The sum of the phases with these signs."""
    return tuple(sum(sign * number for sign, number in zip(signs, numbers)) for numbers in zip(*winding))


def reduced(above, below):
    """The fraction in its lowest terms."""
    return (above // gcd(above, below), below // gcd(above, below))


def any_winding(chance, slots, phases, reach=1):
    """A winding."""
    return tuple(any_phase(chance, slots, reach) for _ in range(phases))


class ReadingsTest(unittest.TestCase):
    def setUp(self):
        self.chance = random.Random(261)

    def test_is_test(self):
        for phases in range(1, 7):
            for signs in product((-1, 0, 1), repeat=phases):
                for harmonic in (0, 1, -7, BIG):
                    self.assertIs(readings.is_test((signs, harmonic), phases), any(signs))
                    if phases < 6:
                        self.assertIs(readings.is_test((signs, harmonic), phases + 1), False)
            self.assertIs(readings.is_test(((2,) + (0,) * (phases - 1), 1), phases), False)
        for value in (None, True, (), ((1,), True), ((True,), 1), ([1], 1), ((1,), 1, 1), "ab", 7, ((1,), (1,))):
            self.assertIs(readings.is_test(value, 1), False)

    def test_readings(self):
        for slots in (2, 3, 6, 7, 12, 59, 60):
            for phases in (1, 2, 3, 6):
                winding = any_winding(self.chance, slots, phases, 3)
                for _ in range(6):
                    signs = tuple(self.chance.choice((-1, 0, 1)) for _ in range(phases - 1)) + (1,)
                    h = self.chance.choice((0, 1, 2, -1, slots, 3 * slots + 1, BIG))
                    reading = readings.reading_of(winding, (signs, h))
                    self.assertEqual(reading, harmonics.size_at(summed(winding, signs), h))
                    self.assertEqual(reading[0], slots)
                    there = abs(worth(harmonics.takes_up(summed(winding, signs), h))) ** 2
                    self.assertAlmostEqual(worth(reading), there, places=5)
        self.assertEqual(readings.reading_of(test=((-1,), 1), winding=((BIG, -BIG),)), (2, (4 * BIG * BIG,)))

    def test_parts(self):
        for slots, phases in ((2, 1), (4, 2), (6, 3), (9, 2), (12, 1)):
            for _ in range(4):
                winding = any_winding(self.chance, slots, phases)
                other = any_winding(self.chance, slots, phases)
                for signs, h in all_tests(slots, phases)[::3]:
                    wanted = (harmonics.size_at(summed(winding, signs), h)
                              != harmonics.size_at(summed(other, signs), h))
                    self.assertIs(readings.parts(winding, other, (signs, h)), wanted)
                    for k in range(slots):
                        if harmonics.order_of(slots, k) == harmonics.order_of(slots, h):
                            self.assertIs(readings.parts(winding, other, (signs, k - 3 * slots)), wanted)

    def test_a_test_has_a_sign_for_each_phase(self):
        for test in (((1, 1), 1), ((1, 1, 1, 1), 1)):
            with self.assertRaises(InvalidTest):
                readings.reading_of(SIX, test)
            with self.assertRaises(InvalidTest):
                readings.parts(SIX, SIX[:2], test)
            with self.assertRaises(InvalidTests) as held:
                readings.fewest_tests((), 6, 3, (((1, 0, 0), 1), test))
            self.assertEqual(held.exception.index, 1)
            with self.assertRaises(InvalidFindings) as held:
                readings.left_by((), 6, 3, (((1, 0, 0), ("dark",)), (test, ("dark",))))
            self.assertEqual(held.exception.index, 0)


class NeverPartedTest(unittest.TestCase):
    def setUp(self):
        self.chance = random.Random(262)

    def assert_as_all_tests(self, winding, other):
        wanted = not any(readings.parts(winding, other, test) for test in all_tests(len(winding[0]), len(winding)))
        self.assertIs(readings.never_parted(winding, other), wanted, (winding, other))
        return wanted

    def test_against_all_tests(self):
        alike = 0
        for slots, phases in ((2, 1), (2, 3), (3, 2), (4, 1), (4, 2), (5, 1), (6, 1), (6, 2), (8, 1)):
            for _ in range(12):
                winding = any_winding(self.chance, slots, phases)
                alike += self.assert_as_all_tests(winding, any_winding(self.chance, slots, phases))
                changed = list(winding)
                place = self.chance.randrange(phases)
                changed[place] = rows.turned_row(rows.scaled_row(changed[place], self.chance.choice((-1, 1))),
                                                 self.chance.randrange(slots))
                alike += self.assert_as_all_tests(winding, tuple(changed))
        self.assertGreater(alike, 20)

    def test_the_same_change_in_all_phases(self):
        for slots in (2, 3, 5, 6, 12, 60):
            for phases in (1, 2, 3, 6):
                winding = any_winding(self.chance, slots, phases, BIG)
                turned = tuple(rows.turned_row(phase, 1) for phase in winding)
                mirrored = tuple(rows.mirrored_row(phase) for phase in winding)
                opposite = tuple(rows.scaled_row(phase, -1) for phase in winding)
                for other in (winding, turned, mirrored, opposite):
                    self.assertIs(readings.never_parted(winding, other), True)
        # One phase alone turned is another winding for tests of both.
        one = ((1, -1, 0, 0, 0), (0, 1, -1, 0, 0))
        self.assertIs(readings.never_parted(one, (one[0], rows.turned_row(one[1], 1))), False)

    def test_others_that_are_never_parted(self):
        # They have the same differences, but are neither turned nor mirrored copies of one another.
        long = product((-1, 0, 1), repeat=8)
        by_differences = {}
        for row in long:
            if sum(row) == 0:
                by_differences.setdefault(rows.differences_of(row), []).append(row)
        found = 0
        for same in by_differences.values():
            copies = set()
            for turn in range(8):
                for sign in (1, -1):
                    row = rows.scaled_row(rows.turned_row(same[0], turn), sign)
                    copies |= {row, rows.mirrored_row(row)}
            for row in same:
                if row not in copies:
                    found += 1
                    self.assertTrue(self.assert_as_all_tests((same[0],), (row,)))
        self.assertGreater(found, 0)


class FindingsTest(unittest.TestCase):
    def test_dark_and_lit(self):
        for test in all_tests(6, 3) + [((1, 1, 1), -6 * BIG)]:
            dark = readings.reading_of(SIX, test) == (6, (0, 0))
            self.assertIs(readings.is_found(SIX, (test, ("dark",))), dark)
            self.assertIs(readings.is_found(SIX, (test, ("lit",))), not dark)

    def assert_between(self, winding, test, low, same, high):
        """The reading is above the fraction low, below the fraction high, and just the fraction same, if told."""
        told = [(low, False), (high, True)] + ([(same, False)] if same else [])
        for fraction, below in told:
            self.assertIs(readings.is_found(winding, (test, ("below", fraction))), below)
            self.assertIs(readings.is_found(winding, (test, ("from", fraction))), not below)

    def test_fractions_near_a_reading(self):
        self.assert_between(SIX, ((1, 1, 0), 1), (4 * BIG - 1, BIG), (4, 1), (4 * BIG + 1, BIG))
        self.assert_between(SIX, ((1, 1, 1), 1), (-1, BIG), (0, 1), (1, BIG))
        # The size is 2 - 2 cos(30 degrees), which is 2 less the square root of 3.
        short = ((1, -1) + (0,) * 10,)
        many = 2 ** 130
        root = isqrt(3 * many * many)
        self.assert_between(short, ((1,), 1), reduced(2 * many - root - 1, many), None,
                            reduced(2 * many - root, many))
        self.assert_between(short, ((-1,), -1), (0, 1), None, (1, 1))
        self.assert_between(((BIG, -BIG),), ((1,), 1), (4 * BIG * BIG - 1, 1), (4 * BIG * BIG, 1),
                            (4 * BIG * BIG + 1, 1))

    def test_left_by_against_a_search(self):
        chance = random.Random(263)
        words = [("dark",), ("lit",), ("below", (3, 1)), ("from", (3, 1)), ("below", (9, 2)), ("from", (1, 3)),
                 ("below", (0, 1)), ("from", (-1, 1))]
        sizes = []
        for slots, phases in ((2, 1), (3, 2), (5, 2), (6, 3), (12, 6)):
            for many in (0, 1, 3, 8):
                coils = any_coils(chance, many, slots, phases)
                for told in (0, 1, 2, 8):
                    findings = tuple((chance.choice(all_tests(slots, min(phases, 3))), chance.choice(words))
                                     for _ in range(told))
                    findings = tuple(((signs + (0,) * (phases - len(signs)), h), tells)
                                     for (signs, h), tells in findings)
                    wanted = []
                    for wrong in wrongs.wrongs_of(coils):
                        winding = wrongs.wrong_winding(coils, slots, phases, wrong)
                        agrees = True
                        for (signs, h), tells in findings:
                            reading = harmonics.size_at(summed(winding, signs), h)
                            fraction = tells[1] if len(tells) == 2 else (0, 1)
                            sign = roots.compare_to(reading, fraction)
                            agrees &= {"dark": sign == 0, "lit": sign > 0, "below": sign < 0, "from": sign >= 0}[tells[0]]
                        if agrees:
                            wanted.append(wrong)
                    self.assertEqual(readings.left_by(coils, slots, phases, findings), tuple(wanted))
                    sizes.append(len(wanted))
        self.assertGreater(len(set(sizes)), 5)

    def test_no_findings_and_eight(self):
        coils = ((0, 0, 3, 1), (1, 2, 5, 1), (2, 4, 1, 1))
        self.assertEqual(readings.left_by(coils, 6, 3, ()), wrongs.wrongs_of(coils))
        self.assertEqual(readings.left_by((), 6, 3, ()), (("right",),))
        finding = (((1, 0, 0), 1), ("lit",))
        self.assertNotIn(("out", 0), readings.left_by(coils, 6, 3, (finding,) * 8))
        with self.assertRaises(InvalidFindings) as held:
            readings.left_by(coils, 6, 3, (finding,) * 9)
        self.assertEqual(held.exception.index, 8)


class FewestTest(unittest.TestCase):
    def test_fewest_against_a_search(self):
        chance = random.Random(264)
        sizes = []
        for slots, phases in ((2, 1), (3, 1), (4, 2), (6, 2), (6, 3), (9, 3)):
            for many in (0, 1, 2, 4, 6):
                coils = any_coils(chance, many, slots, phases)
                for told in (0, 1, 3, 5, 8):
                    tests = tuple(chance.choice(all_tests(slots, phases)) for _ in range(told))
                    windings = [wrongs.wrong_winding(coils, slots, phases, wrong) for wrong in wrongs.wrongs_of(coils)]
                    seen = [[readings.reading_of(winding, test) for test in tests] for winding in windings]
                    parting = {frozenset(k for k in range(told) if first[k] != second[k])
                               for first, second in combinations(seen, 2)} - {frozenset()}
                    wanted = next(chosen for size in range(told + 1) for chosen in combinations(range(told), size)
                                  if all(set(chosen) & some for some in parting))
                    self.assertEqual(readings.fewest_tests(coils, slots, phases, tests), wanted)
                    sizes.append(len(wanted))
        self.assertGreaterEqual(len(set(sizes)), 4)

    def test_no_tests_and_eight(self):
        coils = ((0, 0, 3, 1), (1, 2, 5, 1), (2, 4, 1, 1))
        test = ((1, 1, 0), 1)
        self.assertEqual(readings.fewest_tests(coils, 6, 3, ()), ())
        self.assertEqual(readings.fewest_tests(coils, 6, 3, (test,) * 8), (0,))
        # It reads 0 of all windings.
        self.assertEqual(readings.fewest_tests(coils, 6, 3, (((1, 1, 1), 6),) * 8), ())
        with self.assertRaises(InvalidTests) as held:
            readings.fewest_tests(coils, 6, 3, (test,) * 9)
        self.assertEqual(held.exception.index, 8)


if __name__ == "__main__":
    unittest.main()
