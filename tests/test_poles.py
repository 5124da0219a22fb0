"""Joinings of groups, those that are balanced, the orders at which there are some, the nearest one: [25]."""

import random
import unittest
from itertools import product

from makers import BIG, RATES, any_phase, divisors, root, worth
from slotstars import balance, harmonics, poles, rows
from slotstars.errors import InvalidGroups, TooMany

SIX = ((1, 0, 0, -1, 0, 0), (0, 0, 1, 0, 0, -1), (0, -1, 0, 0, 1, 0))


def all_joinings(many, phases):
    """All joinings of so many groups, ascending."""
    return list(product(list(product(range(phases), (-1, 1))), repeat=many))


def made(groups, phases, joining):
    """The winding of a joining, slot by slot."""
    return tuple(
        tuple(sum(sign * group[slot] for group, (place, sign) in zip(groups, joining) if place == phase)
              for slot in range(len(groups[0])))
        for phase in range(phases)
    )


def balanced(groups, phases, harmonic, rate):
    """All joinings that are balanced so, by a search through all of them."""
    return [joining for joining in all_joinings(len(groups), phases)
            if harmonics.is_there(made(groups, phases, joining)[0], harmonic)
            and balance.is_balanced(made(groups, phases, joining), harmonic, rate)]


def unlike(joining, other):
    """For how many groups both joinings have unlike pairs."""
    return sum(1 for pair, told in zip(joining, other) if pair != told)


class JoiningsTest(unittest.TestCase):
    def setUp(self):
        self.chance = random.Random(25)

    def some_groups(self):
        """Groups with few slots: any ones, and copies of one that are turned."""
        yield SIX
        yield SIX[:1]
        yield ((0, 0),)
        yield ((1, -1), (-1, 1), (2, -2), (0, 0))
        for slots in (3, 4, 5, 6, 7, 8, 9, 10, 12):
            phase = any_phase(self.chance, slots, 1)
            yield tuple(rows.turned_row(phase, self.chance.randrange(slots)) for _ in range(3))
            yield (phase, any_phase(self.chance, slots, 1), phase)
        yield (any_phase(self.chance, 4, BIG), any_phase(self.chance, 4, BIG))
        phase = any_phase(self.chance, 6, BIG)
        yield tuple(rows.turned_row(phase, turn) for turn in (0, 2, 4))

    def test_joined(self):
        for groups in self.some_groups():
            for phases in range(1, 7):
                for _ in range(20):
                    joining = tuple((self.chance.randrange(phases), self.chance.choice((-1, 1))) for _ in groups)
                    winding = poles.joined(groups, phases, joining)
                    self.assertEqual(winding, made(groups, phases, joining))
                    self.assertTrue(rows.is_winding(winding))
        groups = tuple(any_phase(self.chance, 60, BIG) for _ in range(6))
        joining = tuple((5 - k, -1) for k in range(6))
        wanted = tuple(rows.scaled_row(group, -1) for group in reversed(groups))
        self.assertEqual(poles.joined(groups=groups, phases=6, joining=joining), wanted)

    def test_all_balanced_joinings(self):
        found = 0
        for groups in self.some_groups():
            slots = len(groups[0])
            for phases in (1, 2, 3):
                if len(groups) > 3 and phases > 2:
                    continue
                for turn in range(3):
                    harmonic = self.chance.choice((0, 1, 1, 2, 3, -1, slots, slots + 1, -slots - 2, BIG))
                    rate = self.chance.choice(RATES if turn == 0 else RATES[:3] if phases > 1 else RATES[:1])
                    wanted = [joining for joining in balanced(groups, phases, harmonic, rate) if joining[0][1] == 1]
                    self.assertEqual(poles.joinings_for(groups, phases, harmonic, rate), tuple(wanted))
                    found += len(wanted)
        self.assertGreater(found, 50)

    def test_rates_of_each_order(self):
        for slots, phases in ((5, 2), (10, 2), (6, 6), (6, 3), (4, 4), (12, 2), (9, 3), (2, 2), (60, 2)):
            phase = any_phase(self.chance, slots, 3)
            for rate in RATES:
                order = rate[0] if slots % rate[0] == 0 else rate[0] // 2
                if slots % order == 0 and order > 0 and (rate[0] % 2 == 0 or order == rate[0]):
                    turn = next((t for t in range(slots) for sign in (1, -1)
                                 if balance.rate_of_turn(slots, 1, t, sign) == rate), None)
                    if turn is None or not harmonics.is_there(phase, 1):
                        continue
                    groups = tuple(rows.turned_row(phase, turn * k) for k in range(min(phases, 4)))
                    some = poles.joinings_for(groups, len(groups), 1, rate)
                    self.assertGreater(len(some), 0)
                    for joining in some:
                        winding = poles.joined(groups, len(groups), joining)
                        self.assertEqual(balance.rate_at(winding, 1), rate)

    def test_six_groups_with_46656_joinings(self):
        phase = (1, 1, 0, 0, 0, -1, -1, 0, 0, 0, 0, 0)
        groups = tuple(rows.turned_row(phase, 2 * k) for k in range(6))
        marks = [worth(harmonics.takes_up(group, 1)) for group in groups]
        wanted = []
        for joining in all_joinings(6, 3):
            if joining[0][1] == 1:
                sums = [0, 0, 0]
                for mark, (place, sign) in zip(marks, joining):
                    sums[place] += sign * mark
                if abs(sums[0]) > 1e-6 and all(abs(sums[k] - sums[0] * root(3, k)) < 1e-6 for k in (1, 2)):
                    wanted.append(joining)
        self.assertEqual(poles.joinings_for(groups, 3, 1, (3, 1)), tuple(wanted))
        self.assertGreater(len(wanted), 10)
        near = poles.nearest_joining(groups, 3, ((0, 1),) * 6, 1, (3, 1))
        fewest = min(unlike(joining, ((0, 1),) * 6) for found in wanted
                     for joining in (found, tuple((place, -sign) for place, sign in found)))
        self.assertEqual(unlike(near, ((0, 1),) * 6), fewest)

    def test_one_phase_and_one_group(self):
        self.assertEqual(poles.joinings_for(SIX[:1], 1, 1, (1, 0)), (((0, 1),),))
        self.assertEqual(poles.joinings_for(SIX[:1], 1, 1, (2, 1)), ())
        self.assertEqual(poles.joinings_for(SIX[:1], 2, 1, (1, 0)), ())
        self.assertEqual(poles.joinings_for(SIX[:1], 1, 2, (1, 0)), ())
        self.assertEqual(poles.joinings_for(SIX[:1], 1, 0, (1, 0)), ())
        self.assertEqual(poles.orders_joined(SIX[:1], 1, 1), (2, 6))
        self.assertEqual(poles.orders_joined(SIX[:1], 1, 2), ())
        self.assertIsNone(poles.nearest_joining(SIX[:1], 1, ((0, -1),), 2, (1, 0)))
        self.assertEqual(poles.nearest_joining(SIX[:1], 1, ((0, -1),), 1, (1, 0)), ((0, -1),))
        self.assertEqual(poles.joinings_for(((0,) * 60,), 1, 1, (1, 0)), ())

    def test_what_a_turned_copy_takes_up(self):
        for slots in (2, 3, 6, 8, 12):
            phase = any_phase(self.chance, slots, 2)
            for h in range(1, slots):
                if not harmonics.is_there(phase, h):
                    continue
                for turn in range(slots):
                    for sign in (1, -1):
                        groups = (phase, rows.turned_row(phase, turn))
                        row = poles.joined(groups, 1, ((0, 1), (0, sign)))[0]
                        mark = sign * root(slots, h * turn)
                        self.assertIs(not harmonics.is_there(row, h), abs(mark + 1) < 1e-9)
                        double = harmonics.takes_up(rows.scaled_row(phase, 2), h)
                        self.assertIs(harmonics.takes_up(row, h) == double, abs(mark - 1) < 1e-9)
                        some = poles.joinings_for(groups, 1, h, (1, 0))
                        self.assertIs(((0, 1), (0, sign)) in some, abs(mark + 1) > 1e-9)


class OrdersTest(unittest.TestCase):
    def setUp(self):
        self.chance = random.Random(251)

    def test_orders_joined_against_all_harmonics(self):
        some = [SIX, SIX[:2], ((1, -1), (1, -1)), ((0, 0, 0),)]
        for slots in (4, 5, 6, 8):
            phase = any_phase(self.chance, slots, 1)
            some.append(tuple(rows.turned_row(phase, self.chance.randrange(slots)) for _ in range(2)))
        for groups in some:
            slots = len(groups[0])
            for phases in (1, 2, 3):
                rates_at = {}
                for h in list(range(1, slots + 1)) + [-1]:
                    rates_at[h] = {balance.rate_at(made(groups, phases, joining), h)
                                   for joining in all_joinings(len(groups), phases)} - {None}
                for m in range(1, 7):
                    orders = poles.orders_joined(groups, phases, m)
                    self.assertEqual(list(orders), sorted(set(orders) & set(divisors(slots))))
                    for h, rates in rates_at.items():
                        there = any(rate[0] == m for rate in rates)
                        self.assertIs(harmonics.order_of(slots, h) in orders, there)

    def test_numbers_of_40_figures(self):
        phase = any_phase(self.chance, 60, BIG)
        groups = tuple(rows.turned_row(phase, 20 * k) for k in range(3))
        orders = poles.orders_joined(groups, 3, 3)
        self.assertEqual(orders, tuple(order for order in divisors(60) if order % 3 == 0))
        self.assertEqual(poles.orders_joined(groups, 3, 5), ())
        # Their sums are unlike, if only by the last figure.
        other = (groups[0], groups[1], (groups[2][0] + 1, groups[2][1] - 1) + groups[2][2:])
        self.assertEqual(poles.joinings_for(other, 3, 1, (3, 1)), ())
        self.assertGreater(len(poles.joinings_for(groups, 3, 1, (3, 1))), 0)


class NearestTest(unittest.TestCase):
    def test_nearest_against_a_search(self):
        chance = random.Random(252)
        some, none = 0, 0
        for slots in (3, 4, 5, 6, 8):
            phase = any_phase(chance, slots, 1)
            for groups in (tuple(rows.turned_row(phase, chance.randrange(slots)) for _ in range(3)),
                           (phase, any_phase(chance, slots, 1))):
                for phases in (1, 2, 3):
                    for _ in range(4):
                        told = tuple((chance.randrange(phases), chance.choice((-1, 1))) for _ in groups)
                        harmonic, rate = chance.choice((1, 2, 3, -1, BIG)), chance.choice(RATES[:4])
                        wanted = balanced(groups, phases, harmonic, rate)
                        near = poles.nearest_joining(groups, phases, told, harmonic, rate)
                        if wanted:
                            self.assertIn(near, wanted)
                            self.assertEqual(unlike(near, told), min(unlike(joining, told) for joining in wanted))
                            some += 1
                        else:
                            self.assertIsNone(near)
                            none += 1
        self.assertGreater(some, 8)
        self.assertGreater(none, 20)

    def test_none_with_a_pair_in_common(self):
        told = ((1, 1), (0, 1))
        near = poles.nearest_joining(SIX[:2], 2, told, 1, (3, 1))
        self.assertIn(near, (((0, 1), (1, 1)), ((0, -1), (1, -1))))
        self.assertEqual(unlike(near, told), 2)

    def test_the_told_one_if_it_is_balanced(self):
        told = ((2, -1), (1, -1), (0, -1))
        self.assertEqual(poles.nearest_joining(SIX, 3, told, 1, (3, 2)), told)


class TooManyTest(unittest.TestCase):
    def test_bounds(self):
        groups = SIX + SIX
        few = ((6, 3), (5, 4), (4, 6), (4, 5), (3, 6), (1, 6), (6, 1))
        for many, phases in few:
            poles.joinings_for(groups[:many], phases, 6, (3, 1))
            poles.nearest_joining(groups[:many], phases, ((0, 1),) * many, 6, (1, 0))
        for many, phases in ((6, 4), (6, 5), (6, 6), (5, 5), (5, 6)):
            for call in (lambda: poles.joinings_for(groups[:many], phases, 6, (3, 1)),
                         lambda: poles.orders_joined(groups[:many], phases, 3),
                         lambda: poles.nearest_joining(groups[:many], phases, ((0, 1),) * many, 6, (1, 0))):
                with self.assertRaises(TooMany) as held:
                    call()
                self.assertEqual(held.exception.given, (2 * phases) ** many)
            poles.joined(groups[:many], phases, ((0, 1),) * many)

    def test_seven_groups(self):
        with self.assertRaises(InvalidGroups) as held:
            poles.joined(SIX + SIX + SIX[:1], 3, ((0, 1),) * 7)
        self.assertEqual(held.exception.index, 6)


if __name__ == "__main__":
    unittest.main()
