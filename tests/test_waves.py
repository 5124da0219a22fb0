"""Waves, their strength and their leaks: [37], [38], [39]."""

import cmath
import math
import random
import unittest
from decimal import Decimal, getcontext
from fractions import Fraction

from makers import BIG, root, worth
from slotstars import harmonics, polygons, roots, rows, waves
from slotstars.errors import InvalidFraction, InvalidNumber, NotThree, NoWave
from some_windings import FULL, LONE, SHORT, flat_windings, place, windings_that_are_not_flat

PI = Decimal("3.141592653589793238462643383279502884197169399375105820974944592307816406286208998628034825342117068")


def order_for(slots):
    """The order of the sums of waves."""
    return slots if slots % 3 == 0 else 3 * slots


def by_phases(winding, harmonic):
    """V(h) made of what the phases take up: W_A + w w W_B + w W_C."""
    order = order_for(len(winding[0]))
    total = (order, (0,) * len(roots.orders_polynomial(order)[1:]))
    for phase, thirds in zip(winding, (0, 2, 1)):
        taken = roots.led_up(harmonics.takes_up(phase, harmonic), order)
        total = roots.added(total, roots.times_root(taken, order // 3 * thirds))
    return total


def wave_as_number(winding, harmonic):
    """V(h) as a complex number."""
    slots = len(winding[0])
    return sum(place(point) * root(slots, harmonic * slot) for slot, point in enumerate(polygons.slot_points(winding)))


class WavesTest(unittest.TestCase):
    def setUp(self):
        self.chance = random.Random(37)
        self.some = windings_that_are_not_flat(self.chance)
        self.flat = flat_windings(self.chance)

    def test_wave_beside_what_the_phases_take_up(self):
        for winding in self.some + self.flat:
            slots = len(winding[0])
            for h in (0, 1, 2, -1, -2, 3, slots // 2, slots - 1, slots, -slots, slots + 1, BIG, -BIG * slots, 5):
                told = waves.wave(winding, h)
                self.assertEqual(told, by_phases(winding, h))
                self.assertEqual(told[0], slots if slots % 3 == 0 else 3 * slots)
                self.assertEqual(told, waves.wave(winding, h + slots))
                self.assertEqual(told, waves.wave(harmonic=h % slots, winding=winding))
                self.assertIs(waves.is_wave(winding, h), any(told[1]))
                self.assertIs(waves.is_wave(winding, h), h % slots in waves.waves(winding))

    def test_wave_as_a_complex_number(self):
        for winding in self.some:
            if max(max(phase) for phase in winding) < 1000:
                for h in range(-3, 9):
                    self.assertLess(abs(worth(waves.wave(winding, h)) - wave_as_number(winding, h)), 1e-7)

    def test_wave_of_multiples_of_the_slots(self):
        for winding in self.some + self.flat:
            slots = len(winding[0])
            for h in (0, slots, -slots, slots * BIG):
                self.assertFalse(any(waves.wave(winding, h)[1]))
                self.assertIs(waves.is_wave(winding, h), False)

    def test_windings_read_back_from_their_waves(self):
        for winding in self.some:
            slots = len(winding[0])
            if slots > 12:
                continue
            order = order_for(slots)
            told = [waves.wave(winding, h) for h in range(slots)]
            for slot, (a, b) in enumerate(polygons.slot_points(winding)):
                total = roots.sum_of(order, ())
                for h, number in enumerate(told):
                    total = roots.added(total, roots.times_root(number, - order // slots * h * slot))
                wanted = [0] * order
                wanted[0] += slots * a
                wanted[order // 3] += slots * b
                self.assertEqual(total, roots.sum_of(order, tuple(wanted)))

    def test_waves(self):
        for winding in self.some:
            slots = len(winding[0])
            told = waves.waves(winding)
            self.assertEqual(told, tuple(h for h in range(slots) if any(by_phases(winding, h)[1])))
            self.assertNotEqual(told, ())
            self.assertNotIn(0, told)
        for winding in self.flat:
            self.assertEqual(waves.waves(winding), ())
        # Each phase alone has the wave h exactly if it has the wave - h; three that follow one another do not.
        self.assertEqual(waves.waves(FULL), (1,))
        self.assertEqual(waves.waves(FULL[::-1]), (5,))

    def test_turned_and_mirrored_windings(self):
        for winding in self.some[:24]:
            slots = len(winding[0])
            for turn in (1, -2, slots // 2):
                turned = tuple(rows.turned_row(phase, turn) for phase in winding)
                for h in (1, 2, slots - 1):
                    number = roots.times_root(waves.wave(winding, h), order_for(slots) // slots * h * turn)
                    self.assertEqual(waves.wave(turned, h), number)
            mirrored = tuple(rows.mirrored_row(phase) for phase in winding)
            self.assertEqual(waves.waves(mirrored), tuple(sorted(-h % slots for h in waves.waves(winding))))
            self.assertEqual(waves.wave(mirrored, 1), waves.wave(winding, -1))

    def test_the_field_is_the_sum_of_the_waves(self):
        for winding in (FULL, SHORT, LONE):
            slots = len(winding[0])
            above, below = polygons.mean_square(winding)
            total = sum(abs(wave_as_number(winding, h)) ** 2 / (4 * math.pi ** 2 * h * h)
                        for h in range(-3000, 3001) if h != 0)
            self.assertAlmostEqual(total, above / below, places=3)
            for tooth in range(slots):
                # The waves add up to the field in the middle of each tooth: half a slot behind the slot before it.
                total = sum(wave_as_number(winding, h) * cmath.exp(-2j * math.pi * h * (tooth - 0.5) / slots) /
                            (-2j * math.pi * h) for h in range(-3000, 3001) if h != 0)
                self.assertAlmostEqual(total, place(polygons.polygon(winding)[tooth]) / slots, delta=2e-3)


class StrengthTest(unittest.TestCase):
    def setUp(self):
        self.chance = random.Random(38)
        self.some = windings_that_are_not_flat(self.chance)
        self.flat = flat_windings(self.chance)

    def test_compare_waves(self):
        for winding in self.some:
            slots = len(winding[0])
            there = waves.waves(winding)
            for h, other in ((1, 2), (1, -1), (2, -1), (slots, 1), (1, slots), (3, 1 + slots), (slots, 2 * slots), (5, 5),
                             (there[0], there[-1]), (there[0], there[0] + slots), (there[0] - slots, there[0])):
                told = waves.compare_waves(winding, h, other)
                self.assertEqual(told, -waves.compare_waves(winding, other, h))
                size = Fraction(1, h * h), harmonics_size(winding, h)
                twin = Fraction(1, other * other), harmonics_size(winding, other)
                unlike = float(size[0]) * size[1] - float(twin[0]) * twin[1]
                if abs(unlike) > 1e-9 * (float(size[0]) * size[1] + float(twin[0]) * twin[1]):
                    self.assertEqual(told, 1 if unlike > 0 else -1)
                else:
                    self.assertEqual(told, 0)

    def test_edges_of_compare_waves(self):
        self.assertEqual(waves.compare_waves(SHORT, harmonic=1, other=-2), 1)
        self.assertEqual(waves.compare_waves(SHORT, 3, 6), 0)
        self.assertEqual(waves.compare_waves(SHORT, 3, 1), -1)
        self.assertEqual(waves.compare_waves(SHORT, 1, 3), 1)
        self.assertEqual(waves.compare_waves(LONE, 1, -1), 0)
        self.assertEqual(waves.compare_waves(FULL, 1 + 6 * BIG, 1 + 6 * BIG), 0)
        self.assertEqual(waves.compare_waves(FULL, 1 + 6 * BIG, 7 + 6 * BIG), 1)
        self.assertEqual(waves.compare_waves(FULL, 1 - 6 * BIG, 1 + 6 * BIG), 1)
        for winding in self.flat:
            self.assertEqual(waves.compare_waves(winding, 1, -BIG), 0)
        for h, other, given in ((0, 1, 0), (1, 0, 0), (0, 0, 0), (True, 0, True), (1, None, None), (0, None, 0)):
            with self.assertRaises(InvalidNumber) as held:
                waves.compare_waves(FULL[:2], h, other)
            self.assertIs(held.exception.given, given)
        with self.assertRaises(NotThree):
            waves.compare_waves(FULL[:2], 1, 1)

    def test_strongest_waves_beside_a_comparison_of_all(self):
        for winding in self.some:
            slots = len(winding[0])
            told = waves.strongest_waves(winding)
            self.assertEqual(list(told), sorted(set(told)))
            self.assertNotEqual(told, ())
            reach = slots + 1 if slots > 12 else 3 * slots
            for h in range(-reach, reach + 1):
                if h != 0:
                    sign = waves.compare_waves(winding, told[0], h)
                    self.assertEqual(sign, 0 if h in told else 1)
        for winding in self.flat:
            self.assertEqual(waves.strongest_waves(winding), ())

    def test_several_strongest_waves(self):
        self.assertEqual(waves.strongest_waves(LONE), (-1, 1))
        self.assertEqual(waves.strongest_waves(((1, -1), (0, 0), (0, 0))), (-1, 1))
        self.assertEqual(waves.strongest_waves(((1, -1) * 30, (0,) * 60, (0,) * 60)), (-30, 30))
        # The wave 3 of 6 slots is 3 and -3, alike in strength.
        self.assertEqual(waves.strongest_waves(((1, -1) * 3, (0,) * 6, (0,) * 6)), (-3, 3))


def harmonics_size(winding, harmonic):
    """|V(h)|^2 as a float."""
    return worth(roots.size_of(waves.wave(winding, harmonic))).real


class LeakTest(unittest.TestCase):
    def setUp(self):
        self.chance = random.Random(39)
        getcontext().prec = 90

    def test_beside_floats(self):
        for winding in windings_that_are_not_flat(self.chance):
            slots = len(winding[0])
            above, below = polygons.mean_square(winding)
            for h in waves.waves(winding)[:6]:
                for wave in (h, h - slots, h + slots):
                    size = harmonics_size(winding, wave)
                    leak = above / below * 4 * math.pi ** 2 * wave * wave / size - 1
                    self.assertGreater(leak, -1e-9)
                    near = Fraction(leak + 1).limit_denominator(10 ** 9)
                    for shift, wanted in ((Fraction(1, 10 ** 6), True), (Fraction(-1, 10 ** 6), False)):
                        told = near * (1 + shift) - 1
                        self.assertIs(waves.is_leak_below(winding, wave, (told.numerator, told.denominator)), wanted)

    def test_beside_bounds_of_pi(self):
        # The sizes of these waves are whole, so that pi alone is needed, to any figure.
        for winding, waves_told in ((FULL, (1, 7, -5, 6 * 10 ** 9 + 1)), (SHORT, (1, 4, -2, -5)), (LONE, (2, -2, 6))):
            mean = Fraction(*polygons.mean_square(winding))
            for h in waves_told:
                order, (size, *rest) = roots.size_of(waves.wave(winding, h))
                self.assertFalse(any(rest))
                factor = mean * 4 * h * h / size
                leak = Decimal(factor.numerator) / Decimal(factor.denominator) * PI * PI - 1
                for figures in (3, 10, 39):
                    step = Fraction(1, 10 ** figures)
                    low = Fraction(int(leak.scaleb(figures)), 10 ** figures)
                    for told, wanted in ((low, False), (low + step, True), (low - step, False), (low + 2 * step, True)):
                        fraction = (told.numerator, told.denominator)
                        self.assertIs(waves.is_leak_below(winding, h, fraction), wanted, (h, fraction))

    def test_edges(self):
        for winding in windings_that_are_not_flat(self.chance):
            wave = waves.waves(winding)[0]
            for fraction in ((0, 1), (-1, 1), (-1, 2), (-BIG, 1), (-1, BIG), (-2, 1), (-BIG, BIG - 1)):
                self.assertIs(waves.is_leak_below(winding, wave, fraction), False)
            self.assertIs(waves.is_leak_below(winding, wave, (BIG, 1)), True)
        self.assertIs(waves.is_leak_below(fraction=(1, 10), harmonic=1, winding=FULL), True)
        self.assertIs(waves.is_leak_below(FULL, 1 + 6 * BIG, (BIG, 1)), False)
        self.assertIs(waves.is_leak_below(FULL, 1 + 6 * BIG, (100 * BIG * BIG, 1)), True)

    def test_errors(self):
        for winding, h in ((FULL, 2), (FULL, -1), (FULL, 6), (FULL, 6 * BIG), (((0, 0),) * 3, 1), (SHORT, 3)):
            with self.assertRaises(NoWave):
                waves.is_leak_below(winding, h, (1, 2))
            with self.assertRaises(InvalidFraction) as held:
                waves.is_leak_below(winding, h, (2, 4))
            self.assertEqual(held.exception.given, (2, 4))
        with self.assertRaises(InvalidNumber) as held:
            waves.is_leak_below(FULL[:1], 0, (2, 4))
        self.assertEqual(held.exception.given, 0)
        with self.assertRaises(InvalidFraction):
            waves.is_leak_below(FULL[:1], 2, (1, -2))
        with self.assertRaises(NotThree) as held:
            waves.is_leak_below(FULL[:1], 2, (1, 2))
        self.assertEqual(held.exception.given, 1)


if __name__ == "__main__":
    unittest.main()
