"""The bounds of pi and of cosines on which the signs of real sums rest: [8]."""

import cmath
import unittest

from slotstars.cosines import near_cosines, near_pi

# The first hundred places of pi.
PLACES = ("31415926535897932384626433832795028841971693993751"
          "058209749445923078164062862089986280348253421170679")


class BoundsTest(unittest.TestCase):
    def test_pi(self):
        part = 10 ** (len(PLACES) - 1)
        for bits in range(1, 331):
            low, high = int(PLACES) << bits, (int(PLACES) + 1) << bits
            near = near_pi(bits) * part
            self.assertLess(near - low, 2 * part)
            self.assertLess(high - near, 2 * part)
        for bits in (331, 1000, 5000):
            self.assertLessEqual(abs((near_pi(bits + 40) >> 40) - near_pi(bits)), 2)

    def test_cosines(self):
        for order in (1, 2, 3, 4, 5, 6, 7, 12, 59, 60, 354, 359, 360):
            for bits in (32, 50):
                for power, cosine in enumerate(near_cosines(order, order, bits)):
                    wanted = cmath.exp(2j * cmath.pi * power / order).real
                    self.assertLess(abs(cosine / (1 << bits) - wanted), 2 / (1 << bits) + 1e-13)
            for bits in (64, 500, 3000):
                near, nearer = near_cosines(order, order, bits), near_cosines(order, order, bits + 60)
                for cosine, same in zip(near, nearer):
                    self.assertLessEqual(abs((same >> 60) - cosine), 2)
                # They are zeros of x^order - 1: the sum of all of them is 0.
                if order > 1:
                    self.assertLess(abs(sum(near)), 2 * order)


if __name__ == "__main__":
    unittest.main()
