"""Ways, quiet and loud orders, folding, sharings of groups: [22] to [24]."""

import random
import unittest
from itertools import permutations, product
from math import gcd

from makers import BIG, any_phase, any_row, divisors
from slotstars import harmonics, lattices, rows, ways
from slotstars.errors import InvalidGroups, InvalidNumber, InvalidSharing, InvalidWays


def sharings_by_search(groups, many, orders):
    """All sharings into so many quiet ways, by a search through all tuples."""
    found = []
    for sharing in product(range(many), repeat=len(groups)):
        if sharing[0] != 0 or max(sharing) != many - 1:
            continue
        if any(sharing[k] > max(sharing[:k]) + 1 for k in range(1, len(sharing))):
            continue
        sums = [tuple(sum(numbers) for numbers in zip(*[row for row, way in zip(groups, sharing) if way == told]))
                for told in range(many)]
        if all(harmonics.takes_up(one, len(groups[0]) // order) == harmonics.takes_up(sums[0], len(groups[0]) // order)
               for one in sums for order in orders):
            found.append(sharing)
    return tuple(found)


class OrdersTest(unittest.TestCase):
    def test_orders_for(self):
        for slots in (2, 3, 12, 35, 59, 60):
            for first in (0, 1, 2, 5, -1, slots, BIG):
                for every in (0, 1, 2, -3, 5, 6, slots, BIG):
                    wanted = {harmonics.order_of(slots, first + k * every) for k in range(-2 * slots, 2 * slots)}
                    self.assertEqual(ways.orders_for(slots, first, every), tuple(sorted(wanted)))
        self.assertEqual(ways.orders_for(60, 0, 0), (1,))
        self.assertEqual(ways.orders_for(60, 1, 0), (60,))


class QuietTest(unittest.TestCase):
    def setUp(self):
        self.chance = random.Random(22)

    def some_ways(self):
        for slots in (2, 3, 4, 6, 9, 12, 20):
            for many in (2, 3, 8):
                phase = any_phase(self.chance, slots, 1)
                yield (phase,) * many
                yield tuple(any_phase(self.chance, slots, 1) for _ in range(many))
                yield (phase,) * (many - 1) + (rows.turned_row(phase, slots // 2),)
                for step in divisors(slots):
                    yield tuple(rows.turned_row(phase, step * k) for k in range(many))
                for order in divisors(slots):
                    base = lattices.lacking_base(slots, (1, order) if order > 1 else (1,))
                    if base:
                        yield (phase,) * (many - 1) + (rows.added_rows(phase, self.chance.choice(base)),)

    def test_loud_orders_and_quiet(self):
        for told in self.some_ways():
            slots = len(told[0])
            loud = sorted({harmonics.order_of(slots, h) for h in range(slots)
                           if len({harmonics.takes_up(way, h) for way in told}) > 1})
            self.assertEqual(ways.loud_orders(told), tuple(loud))
            for h in range(slots):
                same = len({harmonics.takes_up(way, h) for way in told}) == 1
                self.assertIs(ways.is_quiet(told, (harmonics.order_of(slots, h),)), same)
            self.assertTrue(ways.is_quiet(told, ()))
            orders = divisors(slots)
            self.assertIs(ways.is_quiet(told, tuple(reversed(orders))), len(set(told)) == 1)
            for _ in range(5):
                some = tuple(self.chance.sample(orders, self.chance.randint(0, len(orders))))
                self.assertIs(ways.is_quiet(told, some), not set(some) & set(loud))

    def test_folding_tells(self):
        for told in self.some_ways():
            slots = len(told[0])
            for p in list(range(1, slots + 2)) + [BIG]:
                many = slots // gcd(p, slots)
                same = len({ways.folded(way, many) for way in told}) == 1
                self.assertIs(ways.is_quiet(told, ways.orders_for(slots, 0, p)), same)
                if slots % (2 * p) == 0:
                    same = len({ways.folded_against(way, slots // (2 * p)) for way in told}) == 1
                    self.assertIs(ways.is_quiet(told, ways.orders_for(slots, p, 2 * p)), same)

    def test_folded(self):
        for slots in (2, 3, 8, 12, 60):
            row = any_row(self.chance, slots, BIG)
            for many in range(-1, 2 * slots + 2):
                if many > 0 and slots % many == 0:
                    self.assertEqual(ways.folded(row, many),
                                     tuple(sum(row[s] for s in range(slots) if s % many == k) for k in range(many)))
                else:
                    self.assert_no_fold(ways.folded, row, many)
                if many > 0 and slots % (2 * many) == 0:
                    self.assertEqual(ways.folded_against(row, many), tuple(
                        sum(row[s] * (-1 if s // many % 2 else 1) for s in range(slots) if s % many == k)
                        for k in range(many)))
                else:
                    self.assert_no_fold(ways.folded_against, row, many)

    def assert_no_fold(self, function, row, many):
        with self.assertRaises(InvalidNumber) as raised:
            function(row, many)
        self.assertEqual(raised.exception.given, many)

    def test_numbers_of_ways(self):
        row = (1, -1, 0)
        for many in range(10):
            if 2 <= many <= 8:
                self.assertEqual(ways.loud_orders((row,) * many), ())
            else:
                with self.assertRaises(InvalidWays) as raised:
                    ways.loud_orders((row,) * many)
                self.assertEqual(raised.exception.index, 8 if many > 8 else many)
        with self.assertRaises(InvalidWays) as raised:
            ways.is_quiet((row, row[:2]), (1,))
        self.assertEqual(raised.exception.index, 1)
        with self.assertRaises(InvalidWays) as raised:
            ways.is_quiet(((1, 1),), (1,))
        self.assertEqual(raised.exception.index, 0)


class SharingsTest(unittest.TestCase):
    def setUp(self):
        self.chance = random.Random(24)

    def some_groups(self):
        for slots in (2, 4, 6, 12):
            for many in (1, 2, 3, 4, 5):
                phase = any_phase(self.chance, slots, 1)
                yield (phase,) * many
                yield tuple(any_phase(self.chance, slots, 1) for _ in range(many))
                for step in divisors(slots):
                    yield tuple(rows.turned_row(phase, step * self.chance.randrange(slots)) for _ in range(many))

    def test_sharings(self):
        for groups in self.some_groups():
            slots = len(groups[0])
            orders = divisors(slots)
            for told in ((), (slots,), tuple(reversed(orders)),
                         tuple(self.chance.sample(orders, self.chance.randint(0, len(orders))))):
                found = [sharings_by_search(groups, many, told) for many in range(1, 6)]
                for many in range(1, 9):
                    wanted = found[many - 1] if many <= 5 else ()
                    self.assertEqual(ways.sharings(groups, many, told), wanted)
                self.assertEqual(ways.most_ways(groups, told), max(k + 1 for k in range(5) if found[k]))

    def test_turned_groups(self):
        for slots, step in ((12, 6), (12, 4), (24, 8), (60, 30)):
            phase = any_phase(self.chance, slots, 2)
            for many, size in ((2, 2), (2, 3), (3, 2), (4, 2), (2, 4), (8, 1), (1, 8)):
                groups = tuple(rows.turned_row(phase, step * self.chance.randrange(slots)) for _ in range(many * size))
                orders = tuple(self.chance.sample(divisors(step), 2))
                told = ways.sharings(groups, many, orders)
                alike = [sharing for sharing in ways.sharings(groups, many, ())
                         if all(sharing.count(way) == size for way in range(many))]
                self.assertTrue(set(alike) <= set(told))
                self.assertGreaterEqual(ways.most_ways(groups, orders), many)

    def test_eight_groups(self):
        groups = ((1, -1, 0),) * 8
        counts = [len(ways.sharings(groups, many, ())) for many in range(1, 9)]
        self.assertEqual(counts, [1, 127, 966, 1701, 1050, 266, 28, 1])
        self.assertEqual(len(ways.sharings(groups, 4, (1, 3))), 105)
        self.assertEqual(len(ways.sharings(groups, 3, (3,))), 0)
        self.assertEqual(ways.most_ways(groups, (3, 1)), 8)
        self.assertEqual(ways.sharings(groups[:1], 1, (3,)), ((0,),))
        self.assertEqual(ways.sharings(groups[:1], 2, ()), ())
        self.assertEqual(ways.most_ways(groups[:1], (1, 3)), 1)
        self.assertEqual(ways.most_ways(groups[:3] + ((0, 0, 0),), (3,)), 3)
        for orders in permutations((1, 2, 4)):
            self.assertEqual(ways.most_ways(((1, 0, -1, 0), (0, 1, 0, -1)), orders), 1)
        self.assertEqual(ways.most_ways(((1, 0, -1, 0), (0, 1, 0, -1)), (2, 1)), 2)

    def test_shared_ways(self):
        groups = tuple(any_phase(self.chance, 6, BIG) for _ in range(5))
        for sharing in ways.sharings(groups, 3, ()) + ways.sharings(groups, 1, ()):
            told = ways.shared_ways(groups, sharing)
            self.assertEqual(len(told), max(sharing) + 1)
            for way, row in enumerate(told):
                self.assertEqual(row, tuple(sum(groups[k][s] for k in range(5) if sharing[k] == way)
                                            for s in range(6)))
        self.assertEqual(ways.shared_ways(groups[:1], (0,)), groups[:1])
        self.assertEqual(ways.shared_ways(groups, (0, 1, 2, 3, 4)), groups)

    def test_all_tuples_that_are_no_sharing(self):
        groups = ((1, -1),) * 3
        right = {sharing for many in range(1, 4) for sharing in ways.sharings(groups, many, ())}
        for sharing in product(range(-1, 4), repeat=3):
            if sharing in right:
                self.assertTrue(ways.shared_ways(groups, sharing))
            else:
                with self.assertRaises(InvalidSharing) as raised:
                    ways.shared_ways(groups, sharing)
                self.assertIs(raised.exception.given, sharing)

    def test_numbers_of_groups(self):
        row = (1, -1, 0)
        for many in range(11):
            if 1 <= many <= 8:
                self.assertEqual(ways.most_ways((row,) * many, ()), many)
            else:
                with self.assertRaises(InvalidGroups) as raised:
                    ways.most_ways((row,) * many, ())
                self.assertEqual(raised.exception.index, 8 if many else 0)


if __name__ == "__main__":
    unittest.main()
