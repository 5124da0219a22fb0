"""The twelve moments: currents, the field, its squares: [41]."""

import cmath
import math
import random
import unittest

from makers import BIG
from slotstars import moments, points, polygons
from slotstars.errors import InvalidMoment, InvalidWinding, NotThree
from some_windings import FULL, SHORT, flat_windings, place, windings_that_are_not_flat


def unit(moment):
    """In what the currents are told: so many times the cosines."""
    return 2 if moment % 2 == 0 else 2 / math.sqrt(3)


class MomentsTest(unittest.TestCase):
    def setUp(self):
        chance = random.Random(41)
        self.some = windings_that_are_not_flat(chance) + flat_windings(chance)

    def test_currents(self):
        for moment in range(12):
            told = moments.currents_at(moment)
            self.assertIs(type(told), tuple)
            for phase, current in enumerate(told):
                wanted = unit(moment) * math.cos(2 * math.pi * (moment / 12 - phase / 3))
                self.assertAlmostEqual(current, wanted)
                self.assertIs(type(current), int)
            self.assertEqual(sum(told), 0)
        self.assertEqual(moments.currents_at(0), (2, -1, -1))
        self.assertEqual(moments.currents_at(1), (1, 0, -1))
        self.assertEqual(moments.currents_at(moment=11), (1, -1, 0))

    def test_field_beside_the_currents(self):
        for winding in self.some:
            slots = len(winding[0])
            for moment in range(12):
                currents = moments.currents_at(moment)
                loads = [sum(i * n for i, n in zip(currents, numbers)) for numbers in zip(*winding)]
                sums = [sum(loads[:slot]) for slot in range(slots)]
                wanted = tuple(slots * number - sum(sums) for number in sums)
                self.assertEqual(moments.field_at(winding, moment), wanted)
                self.assertEqual(moments.field_at(moment=moment, winding=winding), wanted)
                self.assertEqual(sum(wanted), 0)
                self.assertEqual(moments.square_at(winding, moment), sum(number ** 2 for number in wanted))

    def test_field_beside_the_polygon(self):
        for winding in self.some:
            if max(map(max, winding)) < 1000:
                for moment in range(12):
                    turn = cmath.exp(2j * math.pi * moment / 12)
                    for number, point in zip(moments.field_at(winding, moment), polygons.polygon(winding)):
                        self.assertAlmostEqual(number, unit(moment) * (turn * place(point)).real, places=6)

    def test_squares_beside_the_mean_square_and_the_pulse(self):
        for winding in self.some:
            slots = len(winding[0])
            above, below = polygons.mean_square(winding)
            norms = above * slots ** 3 // below
            for moment in range(12):
                # In whole numbers: 4 Z^3 times half of the mean square and half of the real part of the turned pulse.
                a, b = points.turned_point(polygons.pulse(winding), moment)
                told = moments.square_at(winding, moment) * (1 if moment % 2 == 0 else 3)
                self.assertEqual(told, 2 * norms + 2 * a - b)
            same = len({moments.square_at(winding, moment) for moment in range(0, 12, 2)}) == 1
            self.assertEqual(same, polygons.pulse(winding) == (0, 0))

    def test_half_a_turn_further_on(self):
        for winding in self.some:
            for moment in range(6):
                told = moments.field_at(winding, moment)
                self.assertEqual(moments.field_at(winding, moment + 6), tuple(-number for number in told))

    def test_errors(self):
        for moment in (-1, 12, True, False, None, "0", (0,), BIG, -BIG):
            for values in ((FULL, moment), (FULL[:2], moment)):
                for call in (moments.field_at, moments.square_at):
                    with self.assertRaises(InvalidMoment) as held:
                        call(*values)
                    self.assertIs(held.exception.given, moment)
            with self.assertRaises(InvalidMoment) as held:
                moments.currents_at(moment)
            self.assertIs(held.exception.given, moment)
        with self.assertRaises(NotThree):
            moments.field_at(SHORT[:2], 11)
        with self.assertRaises(InvalidWinding):
            moments.square_at(SHORT + ((1,),), 12)


if __name__ == "__main__":
    unittest.main()
