"""Orders and their polynomials, sums of roots of one, real sums and their signs: [5] to [8]."""

import random
import unittest
from fractions import Fraction
from math import gcd, isqrt

from makers import BIG, root, worth
from slotstars import roots
from slotstars.errors import InvalidFraction, InvalidNumber, NoDivisor, NotReal, SlotError, Unlike
from wrong_values import KINDS, PLAIN

ORDERS = (1, 2, 3, 4, 5, 6, 8, 9, 12, 15, 30, 36, 60, 105, 359, 360)


def multiplied(first, second):
    """The product of two polynomials."""
    result = [0] * (len(first) + len(second) - 1)
    for low, left in enumerate(first):
        for high, right in enumerate(second):
            result[low + high] += left * right
    return tuple(result)


def units(order):
    """The numbers without a common divisor with the order."""
    return [k for k in range(order) if gcd(k, order) == 1]


def any_sum(chance, order, reach=9):
    """A sum of the order."""
    return (order, tuple(chance.randint(-reach, reach) for _ in units(order)))


def roots_sum(order, powers):
    """The sum of these powers of the root of the order."""
    total = [0] * order
    for power in powers:
        total[power % order] += 1
    return roots.sum_of(order, tuple(total))


def one(order):
    """The number 1."""
    return roots.sum_of(order, (1,))


class PolynomialsTest(unittest.TestCase):
    def test_products_of_all_divisors(self):
        for order in list(range(1, 80)) + [105, 120, 128, 210, 243, 330, 343, 359, 360]:
            whole = (1,)
            for part in range(1, order + 1):
                if order % part == 0:
                    whole = multiplied(whole, roots.orders_polynomial(part))
            self.assertEqual(whole, (-1,) + (0,) * (order - 1) + (1,))

    def test_degree_and_leading_coefficient(self):
        for order in range(1, 361):
            polynomial = roots.orders_polynomial(order)
            self.assertEqual(len(polynomial), len(units(order)) + 1)
            self.assertEqual(polynomial[-1], 1)
        self.assertIn(-2, roots.orders_polynomial(105))

    def test_zeros(self):
        for order in (1, 2, 3, 7, 12, 30, 45):
            polynomial = roots.orders_polynomial(order)
            for power in range(order):
                value = sum(part * root(order, k * power) for k, part in enumerate(polynomial))
                self.assertEqual(abs(value) < 1e-9, gcd(power, order) == 1)


class SumsTest(unittest.TestCase):
    def setUp(self):
        self.chance = random.Random(20)

    def test_is_sum(self):
        for order in range(1, 361):
            many = len(units(order))
            self.assertTrue(roots.is_sum((order, (0,) * many)))
            self.assertFalse(roots.is_sum((order, (0,) * (many + 1))))
            self.assertFalse(roots.is_sum((order, (0,) * (many - 1))))
        self.assertTrue(roots.is_sum((3, (BIG, -BIG))))
        for value, _ in KINDS["sum"][1]:
            self.assertIs(roots.is_sum(value), False)

    def test_sum_of(self):
        for order in ORDERS:
            for many in (0, 1, 2, order, 719, 720):
                numbers = tuple(self.chance.randint(-9, 9) for _ in range(many))
                number = roots.sum_of(order, numbers)
                self.assertTrue(roots.is_sum(number))
                self.assertEqual(number[0], order)
                wanted = sum(part * root(order, k) for k, part in enumerate(numbers))
                self.assertAlmostEqual(abs(worth(number) - wanted), 0, delta=1e-6)
            for divisor in range(2, order + 1):
                if order % divisor == 0:
                    self.assertFalse(any(roots_sum(order, range(0, order, order // divisor))[1]))
            right = any_sum(self.chance, order)
            self.assertEqual(roots.sum_of(order, right[1]), right)
            self.assertEqual(roots.sum_of(order, right[1] + (0,) * (720 - len(right[1]))), right)
        self.assertEqual(roots.sum_of(1, (1, 2, -5)), (1, (-2,)))
        self.assertEqual(roots.sum_of(2, (1, 2, -5)), (2, (-6,)))
        self.assertEqual(roots.sum_of(6, (BIG, 0, BIG, 0, BIG)), (6, (0, 0)))

    def test_sums_and_products(self):
        for order in ORDERS:
            a, b, c = (any_sum(self.chance, order) for _ in range(3))
            self.assertEqual(roots.added(a, b), roots.added(b, a))
            self.assertEqual(roots.subtracted(roots.added(a, b), b), a)
            self.assertEqual(roots.product(a, b), roots.product(b, a))
            self.assertEqual(roots.product(a, one(order)), a)
            self.assertEqual(roots.product(a, roots.added(b, c)),
                             roots.added(roots.product(a, b), roots.product(a, c)))
            self.assertAlmostEqual(abs(worth(roots.product(a, b)) - worth(a) * worth(b)), 0, delta=1e-4)
            self.assertAlmostEqual(abs(worth(roots.added(a, b)) - worth(a) - worth(b)), 0, delta=1e-6)
        big = (4, (BIG, BIG))
        self.assertEqual(roots.product(big, big), (4, (0, 2 * BIG * BIG)))

    def test_times_root(self):
        for order in ORDERS:
            a = any_sum(self.chance, order)
            for power in (0, 1, -1, order, -order, 5 * order + 2, BIG, -BIG):
                turned = roots.times_root(a, power)
                self.assertEqual(turned, roots.product(a, roots_sum(order, (power,))))
                self.assertEqual(roots.times_root(turned, -power), a)

    def test_conjugate_and_changed(self):
        for order in ORDERS:
            a, b = any_sum(self.chance, order), any_sum(self.chance, order)
            self.assertEqual(roots.conjugate(roots.conjugate(a)), a)
            self.assertEqual(roots.conjugate(a), roots.changed(a, order - 1) if order > 1 else a)
            self.assertAlmostEqual(abs(worth(roots.conjugate(a)) - worth(a).conjugate()), 0, delta=1e-6)
            for power in self.chance.sample(units(order), min(4, len(units(order)))):
                for shift in (0, -7 * order, BIG * order):
                    k = power + shift
                    self.assertEqual(roots.changed(roots.product(a, b), k),
                                     roots.product(roots.changed(a, k), roots.changed(b, k)))
                    self.assertEqual(roots.changed(roots.added(a, b), k),
                                     roots.added(roots.changed(a, k), roots.changed(b, k)))
                    self.assertEqual(roots.changed(roots_sum(order, (1,)), k), roots_sum(order, (k,)))
            for power in range(-order, 2 * order + 1):
                if gcd(power, order) > 1:
                    with self.assertRaises(InvalidNumber) as raised:
                        roots.changed(a, power)
                    self.assertEqual(raised.exception.given, power)
        self.assertEqual(roots.changed((1, (5,)), 0), (1, (5,)))

    def test_led_up(self):
        for order in (1, 2, 3, 4, 5, 6, 12, 20):
            for many in range(1, 361 // order):
                if many < 8 or order * many > 340:
                    a = any_sum(self.chance, order)
                    up = roots.led_up(a, order * many)
                    self.assertEqual(up[0], order * many)
                    self.assertAlmostEqual(abs(worth(up) - worth(a)), 0, delta=1e-6)
                    self.assertEqual(roots.led_down(up, order), a)

    def test_led_down(self):
        for order in (1, 2, 4, 6, 8, 9, 10, 12, 15, 18, 30, 36, 60):
            for below in (k for k in range(1, order + 1) if order % k == 0):
                some = [any_sum(self.chance, order, 1) for _ in range(3)]
                some += [roots.led_up(any_sum(self.chance, below), order), roots.sum_of(order, (3,)),
                         (order, (0,) * len(units(order)))]
                some += [roots.added(some[3], roots.led_up(any_sum(self.chance, k, 1), order))
                         for k in range(1, order) if order % k == 0]
                for number in some:
                    # A sum lies in the field of the roots of the divisor if no change that keeps these changes it.
                    stays = all(roots.changed(number, k) == number for k in range(1, order, below) if gcd(k, order) == 1)
                    down = roots.led_down(number, below)
                    self.assertEqual(down is not None, stays)
                    if stays:
                        self.assertEqual(roots.led_up(down, order), number)

    def test_errors_of_leading(self):
        a = any_sum(self.chance, 12)
        for order in range(1, 37):
            if order % 12 != 0:
                with self.assertRaises(SlotError) as raised:
                    roots.led_up(a, order)
                self.assertEqual(raised.exception.given, order)
            if 12 % order != 0:
                with self.assertRaises(NoDivisor) as raised:
                    roots.led_down(a, order)
                self.assertEqual(raised.exception.given, order)


class RealSumsTest(unittest.TestCase):
    def setUp(self):
        self.chance = random.Random(30)

    def test_is_real(self):
        for order in ORDERS:
            a = any_sum(self.chance, order)
            self.assertTrue(roots.is_real(roots.added(a, roots.conjugate(a))))
            self.assertTrue(roots.is_real(roots.size_of(a)))
            self.assertTrue(roots.is_real(one(order)))
            for power in range(order):
                self.assertEqual(roots.is_real(roots_sum(order, (power,))), 2 * power % order == 0)

    def test_size_of(self):
        for order in ORDERS:
            a = any_sum(self.chance, order)
            self.assertEqual(roots.size_of(a), roots.product(a, roots.conjugate(a)))
            self.assertEqual(roots.sign_of(roots.size_of(a)), 1 if any(a[1]) else 0)
            self.assertEqual(roots.size_of(roots.times_root(a, 7)), roots.size_of(a))
        self.assertEqual(roots.size_of((4, (BIG, 1))), (4, (BIG * BIG + 1, 0)))

    def test_signs_of_plain_sums(self):
        for order in ORDERS:
            for _ in range(5):
                a = any_sum(self.chance, order)
                number = roots.added(a, roots.conjugate(a))
                value = worth(number).real
                if abs(value) > 1e-3:
                    self.assertEqual(roots.sign_of(number), 1 if value > 0 else -1)
            for whole in (-BIG, -1, 0, 1, BIG):
                sign = (whole > 0) - (whole < 0)
                self.assertEqual(roots.sign_of(roots.sum_of(order, (whole,))), sign)
                self.assertEqual(roots.compare_to(roots.sum_of(order, (whole,)), (whole, 1)), 0)
                self.assertEqual(roots.compare_to(roots.sum_of(order, (whole,)), (whole * 2 + 1, 2)), -1)
                self.assertEqual(roots.compare_to(roots.sum_of(order, (whole,)), (whole * 2 - 1, 2)), 1)

    def test_all_cosines_in_their_order(self):
        for order in (5, 7, 12, 60, 359, 360):
            cosines = [roots_sum(order, (k, -k)) for k in range(order // 2 + 1)]
            for left, right in zip(cosines, cosines[1:]):
                self.assertEqual(roots.compare_real(left, right), 1)
                self.assertEqual(roots.compare_real(right, left), -1)
                self.assertEqual(roots.compare_real(left, left), 0)

    def test_sums_that_all_but_cancel(self):
        # a + b * root of 2, whose sign shows in the squares.
        for order in (8, 16, 24, 40, 360):
            second = roots_sum(order, (order // 8, -order // 8))
            for _ in range(20):
                b = self.chance.randint(1, BIG)
                a = -isqrt(2 * b * b) + self.chance.choice((0, 0, 0, 1, -1))
                number = roots.added(roots.sum_of(order, (a,)), roots.product(second, roots.sum_of(order, (b,))))
                sign = 1 if 2 * b * b > a * a else -1
                self.assertEqual(roots.sign_of(number), sign)
                self.assertEqual(roots.sign_of(roots.subtracted(roots.sum_of(order, ()), number)), -sign)

    def test_powers_that_get_small(self):
        for order, powers in ((5, 900), (60, 60), (360, 12)):
            # Less than 1 and more than 0: its powers are, too.
            small = roots_sum(order, (order // 5, -(order // 5)))
            number = one(order)
            for power in range(powers):
                number = roots.product(number, small)
                if power % 50 == 11:
                    self.assertEqual(roots.sign_of(number), 1)
                    self.assertEqual(roots.compare_real(number, roots.product(number, small)), 1)
        tiny = roots.subtracted(roots_sum(359, (1, -1)), roots_sum(359, (2, -2)))
        number = tiny
        for power in range(8):
            number = roots.product(number, tiny)
            self.assertEqual(roots.sign_of(number), 1)

    def test_fractions_very_near(self):
        # The fractions of neighbouring numbers 1, 1, 2, 3, 5 .. lie on both sides of 2 cos(72 degrees) by turns.
        left, right = 1, 1
        for order in (5, 60):
            number = roots_sum(order, (order // 5, -order // 5))
            left, right, sign = 1, 1, -1
            for _ in range(190):
                self.assertEqual(roots.compare_to(number, (left, right)), sign)
                left, right, sign = right, left + right, -sign
        for order in (12, 360):
            number = roots_sum(order, (order // 12, -order // 12))
            for places in (1, 10, 39, 100, 400):
                part = 10 ** places
                near = isqrt(3 * part * part)
                for top, sign in ((near, 1), (near + 1, -1)):
                    fraction = Fraction(top, part)
                    told = (fraction.numerator, fraction.denominator)
                    self.assertEqual(roots.compare_to(number, told), sign)

    def test_order_of_errors(self):
        real, unreal = (6, (1, 0)), (6, (0, 1))
        with self.assertRaises(NotReal) as raised:
            roots.compare_real(real, (3, (0, 1)))
        self.assertEqual(raised.exception.given, (3, (0, 1)))
        with self.assertRaises(NotReal) as raised:
            roots.compare_real(unreal, (3, (0, 1)))
        self.assertEqual(raised.exception.given, unreal)
        with self.assertRaises(Unlike) as raised:
            roots.compare_real(real, (3, (1, 0)))
        self.assertEqual(raised.exception.given, (3, (1, 0)))
        with self.assertRaises(InvalidFraction):
            roots.compare_to(unreal, (2, 2))

    def test_equal_calls(self):
        for value in PLAIN:
            self.assertIs(roots.is_sum(value), roots.is_sum(value))
        for _ in range(2):
            self.assertEqual(roots.size_of((5, (1, 2, 3, 4))), roots.size_of((5, (1, 2, 3, 4))))


if __name__ == "__main__":
    unittest.main()
