"""Factors, chains, their rows, what they kill, the chain of a harmonic and orders: [33]."""

import random
import unittest
from itertools import combinations

from makers import BIG, divisors
from slotstars import chains, harmonics, lattices, rows
from slotstars.errors import InvalidChain


def factor_row(slots, factor):
    """The row of one factor: what it makes of a single conductor in the slot 0."""
    row = [0] * slots
    if factor[0] == "span":
        row[0] += 1
        row[factor[1] % slots] -= 1
    else:
        for turn in range(factor[1]):
            row[turn * factor[2] % slots] += 1
    return row


def folded_product(row, other):
    """The product of both rows, counted round."""
    slots = len(row)
    result = [0] * slots
    for slot, number in enumerate(row):
        for place, part in enumerate(other):
            result[(slot + place) % slots] += number * part
    return result


def killed_by(slots, factor):
    """The orders that one factor kills, as they are told."""
    if factor[0] == "span":
        return {order for order in divisors(slots) if factor[1] % order == 0}
    _, many, width = factor
    return {order for order in divisors(slots) if many * width % order == 0 and width % order != 0}


class ChainsTest(unittest.TestCase):
    def setUp(self):
        self.chance = random.Random(33)

    def any_factor(self, slots):
        if self.chance.random() < 0.5:
            return ("span", self.chance.randrange(1, slots))
        return ("belt", self.chance.choice((2, 3, 4, 5, 59, 60)), self.chance.randrange(1, slots))

    def test_rows_and_what_they_lack(self):
        for slots in (2, 3, 6, 8, 12, 15, 59, 60):
            for many in (0, 1, 1, 1, 2, 3, 12):
                chain = tuple(self.any_factor(slots) for _ in range(many))
                wanted = [1] + [0] * (slots - 1)
                for factor in chain:
                    wanted = folded_product(wanted, factor_row(slots, factor))
                row = chains.chain_row(slots, chain)
                self.assertEqual(row, tuple(wanted))
                self.assertTrue(rows.is_row(row))
                killed = set().union(*[killed_by(slots, factor) for factor in chain])
                self.assertEqual(chains.chain_kills(slots, chain), tuple(sorted(killed)))
                self.assertEqual(harmonics.orders_gone(row), tuple(sorted(killed)))

    def test_each_factor_alone(self):
        for slots in (2, 4, 6, 9, 12, 30):
            for width in range(1, slots):
                factors = [("span", width)] + [("belt", many, width) for many in (2, 3, 4, 5, 6, 10, 30, 59, 60)]
                for factor in factors:
                    self.assertEqual(chains.chain_row(slots, (factor,)), tuple(factor_row(slots, factor)))
                    self.assertEqual(chains.chain_kills(slots, (factor,)), tuple(sorted(killed_by(slots, factor))))

    def test_no_factors_twelve_and_thirteen(self):
        self.assertEqual(chains.chain_row(4, ()), (1, 0, 0, 0))
        self.assertEqual(chains.chain_kills(60, ()), ())
        many = chains.chain_row(60, (("belt", 60, 59),) * 12)
        self.assertEqual(many, (60 ** 11,) * 60)
        self.assertEqual(chains.chain_kills(chain=(("belt", 60, 59),) * 12, slots=60), tuple(divisors(60)[1:]))
        for call in (chains.chain_row, chains.chain_kills):
            with self.assertRaises(InvalidChain) as held:
                call(60, (("span", 1),) * 13)
            self.assertEqual(held.exception.index, 12)

    def test_factors_fit_the_slots(self):
        for slots in (2, 5, 59, 60):
            chains.chain_row(slots, (("span", slots - 1), ("belt", 60, slots - 1), ("belt", 2, 1)))
            for wrong in (("span", slots), ("belt", 2, slots), ("belt", 61, 1), ("belt", 1, 1)):
                with self.assertRaises(InvalidChain) as held:
                    chains.chain_row(slots, (("span", 1), wrong))
                self.assertEqual(held.exception.index, 1)

    def test_chain_for(self):
        for slots in (2, 3, 4, 6, 9, 12, 30):
            told = divisors(slots)
            some = [(), tuple(told), tuple(reversed(told))] + [(order,) for order in told]
            some += list(combinations(told, 2))
            some += [tuple(self.chance.sample(told, self.chance.randint(0, len(told)))) for _ in range(10)]
            for orders in some:
                for h in (0, slots, *divisors(slots), -1, BIG):
                    self.assert_chain(slots, h, orders)
        for h in (1, 7, 12, 30, -BIG):
            orders = tuple(order for order in divisors(60) if order != harmonics.order_of(60, h))
            self.assert_chain(60, h, orders)
            self.assertEqual(len(chains.chain_for(60, h, orders)), 11)

    def assert_chain(self, slots, h, orders):
        here = harmonics.order_of(slots, h)
        chain = chains.chain_for(slots, h, orders)
        self.assertIs(chain is None, here == 1 or here in orders)
        self.assertIs(chain is None, lattices.phase_with(slots, h, orders) is None)
        if chain is not None:
            row = chains.chain_row(slots, chain)
            self.assertTrue(rows.is_phase(row))
            self.assertTrue(harmonics.is_there(row, h))
            self.assertTrue(lattices.lacks(row, orders))
            wanted = [("span", order) if order % here else ("belt", order // here, here)
                      for order in sorted({1, *orders})]
            self.assertEqual(chain, tuple(wanted))


if __name__ == "__main__":
    unittest.main()
