"""Directions, stars, rooms, choices, sights, the choices that take up most, belts: [28], [29], [30]."""

import cmath
import random
import unittest
from itertools import product

from makers import BIG, divisors, root
from slotstars import harmonics, roots, rows, stars
from slotstars.errors import InvalidNumber, InvalidSight, NoBelts, NoChoice, NotAChoice


def ways_to_take(space, many):
    """All tuples of so many conductors with no more in each slot than there is space for."""
    return [taken for taken in product(*[range(number + 1) for number in space]) if sum(taken) == many]


def all_choices(room, many):
    """The set of the phases of all choices of so many conductors."""
    return {tuple(coming - going for coming, going in zip(forward, backward))
            for forward in ways_to_take(room[0], many) for backward in ways_to_take(room[1], many)}


def any_room(chance, slots, most):
    """A room."""
    return tuple(tuple(chance.randint(0, most) for _ in range(slots)) for _ in range(2))


def choices_of(room):
    """How many conductors the choices of a room may have."""
    return min(sum(room[0]), sum(room[1]))


class StarTest(unittest.TestCase):
    def test_directions(self):
        for slots in (2, 3, 4, 6, 9, 12, 15, 59, 60):
            for h in (0, 1, 2, 3, 5, -1, -4, slots, 2 * slots - 1, BIG):
                order = harmonics.order_of(slots, h)
                told = stars.star(slots, h)
                self.assertEqual(len(told), order)
                self.assertEqual(sorted(slot for direction in told for slot in direction), list(range(slots)))
                for j, direction in enumerate(told):
                    self.assertEqual(len(direction), slots // order)
                    self.assertEqual(list(direction), sorted(direction))
                    for slot in direction:
                        self.assertEqual((h * slot - j * (slots // order)) % slots, 0)
                        self.assertLess(abs(root(slots, h * slot) - root(order, j)), 1e-9)
        self.assertEqual(stars.star(harmonic=3, slots=2), ((0,), (1,)))


class ChoicesTest(unittest.TestCase):
    def setUp(self):
        self.chance = random.Random(28)

    def some_rooms(self):
        yield ((0, 0), (0, 0))
        yield ((1, 0), (0, 1))
        yield ((0, 0, 3), (0, 0, 3))
        yield ((2, 2, 2), (1, 1, 1))
        for slots in (2, 3, 4, 5):
            for most in (1, 2):
                yield any_room(self.chance, slots, most)

    def test_is_choice_against_a_search(self):
        for room in self.some_rooms():
            slots = len(room[0])
            reach = max(room[0] + room[1]) + 1
            phases = [row for row in product(range(-reach, reach + 1), repeat=slots) if sum(row) == 0]
            for many in range(1, choices_of(room) + 2):
                wanted = all_choices(room, many)
                for phase in phases:
                    self.assertIs(stars.is_choice(room, many, phase), phase in wanted)

    def test_great_numbers(self):
        room = ((BIG, 0, 1), (0, BIG, BIG))
        self.assertTrue(stars.is_choice(room, BIG, (BIG, -BIG, 0)))
        self.assertTrue(stars.is_choice(room, BIG + 1, (BIG, -BIG, 0)))
        self.assertFalse(stars.is_choice(room, BIG + 2, (BIG, -BIG, 0)))
        self.assertFalse(stars.is_choice(room, BIG - 1, (BIG, -BIG, 0)))
        self.assertTrue(stars.is_choice(phase=(0, 0, 0), many=1, room=room))


class GatheredTest(unittest.TestCase):
    def setUp(self):
        self.chance = random.Random(29)

    def gathered_by_angles(self, room, many, harmonic, sight):
        """The phase of the choice, by distances of angles."""
        slots = len(room[0])
        order = harmonics.order_of(slots, harmonic)
        row = [0] * slots
        for space, toward, sign in ((room[0], sight, 1), (room[1], sight + order, -1)):
            left = many
            aim = cmath.exp(2j * cmath.pi * (2 * toward + 1) / (4 * order))
            near = sorted(range(slots), key=lambda k: (round(abs(root(slots, harmonic * k) - aim), 9), k))
            for slot in near:
                taken = min(left, space[slot])
                row[slot] += sign * taken
                left -= taken
        return tuple(row)

    def test_all_sights(self):
        for slots in (2, 3, 4, 5, 6, 9, 10, 12, 20):
            for h in (0, 1, 2, 3, -1, slots, BIG):
                order = harmonics.order_of(slots, h)
                room = any_room(self.chance, slots, 3)
                if choices_of(room) == 0:
                    continue
                for many in {1, (choices_of(room) + 1) // 2, choices_of(room)}:
                    for sight in range(2 * order):
                        phase = stars.gathered(room, many, h, sight)
                        self.assertEqual(phase, self.gathered_by_angles(room, many, h, sight))
                        self.assertTrue(stars.is_choice(room, many, phase))
                with self.assertRaises(InvalidSight):
                    stars.gathered(room, 1, h, 2 * order)

    def test_bounds_of_rooms(self):
        room = ((2, 0, 0, 1), (1, 1, 1, 1))
        self.assertEqual(stars.gathered(room, 3, 1, 0), (2, -1, -1, 0))
        for few in (room, room[::-1], ((0,) * 4, (1,) * 4), ((1,) * 4, (0,) * 4)):
            for call in (lambda: stars.gathered(few, 4, 1, 0), lambda: stars.strongest(few, 4, 1),
                         lambda: stars.greatest_size(few, 4, 1)):
                self.assertRaises(NoChoice, call)
            with self.assertRaises(NotAChoice):
                stars.better_choice(few, 4, 1, (0, 0, 0, 0))
        self.assertRaises(InvalidSight, stars.gathered, room, 4, 2, 4)
        self.assertRaises(NoChoice, stars.gathered, room, 4, 2, 3)


class StrongestTest(unittest.TestCase):
    def setUp(self):
        self.chance = random.Random(291)

    def assert_strongest(self, room, many, h):
        slots = len(room[0])
        sight, phase = stars.strongest(room, many, h)
        greatest = stars.greatest_size(room, many, h)
        self.assertEqual(greatest, harmonics.size_at(phase, h))
        self.assertEqual(greatest[0], slots)
        self.assertEqual(phase, stars.gathered(room, many, h, sight))
        for before in range(2 * harmonics.order_of(slots, h)):
            size = harmonics.size_at(stars.gathered(room, many, h, before), h)
            self.assertLessEqual(roots.compare_real(size, greatest), -1 if before < sight else 0)
        return phase, greatest

    def test_against_all_choices(self):
        rooms = [((1,) * 6, (1,) * 6), ((2, 0, 1, 0), (0, 1, 0, 2)), ((1,) * 5, (2,) * 5), ((1, 1), (1, 1)),
                 ((3, 0), (0, 3)), ((0, 2, 0), (0, 2, 0)), ((1, 0, 0, 1, 0, 0, 1), (0, 1, 1, 0, 1, 0, 0))]
        rooms += [any_room(self.chance, slots, 1) for slots in (4, 5, 6, 7, 8)]
        rooms += [any_room(self.chance, slots, 2) for slots in (3, 4, 5)]
        for room in rooms:
            slots = len(room[0])
            for many in range(1, choices_of(room) + 1):
                choices = sorted(all_choices(room, many))
                for h in (1, 2, -1, 3):
                    _, greatest = self.assert_strongest(room, many, h)
                    sizes = {harmonics.size_at(phase, h) for phase in choices}
                    self.assertIn(greatest, sizes)
                    for size in sizes:
                        self.assertLessEqual(roots.compare_real(size, greatest), 0)
                    for phase in self.chance.sample(choices, min(5, len(choices))):
                        better = stars.better_choice(room, many, h, phase)
                        if harmonics.size_at(phase, h) == greatest:
                            self.assertIsNone(better)
                        else:
                            self.assertEqual(better, stars.strongest(room, many, h)[1])

    def test_harmonics_that_take_up_nothing(self):
        for h in (0, 6, -12, 6 * BIG):
            self.assertEqual(stars.strongest(((1,) * 6, (1,) * 6), 2, h), (0, (0,) * 6))
            self.assertEqual(stars.greatest_size(((1, 1, 0, 0, 0, 0), (0, 0, 0, 0, 1, 1)), 2, h), (6, (0, 0)))
            self.assertIsNone(stars.better_choice(((1,) * 6, (1,) * 6), 1, h, (1, -1, 0, 0, 0, 0)))

    def test_great_rooms(self):
        for slots in (59, 60):
            room = tuple(tuple(self.chance.randint(0, BIG) for _ in range(slots)) for _ in range(2))
            many = choices_of(room) // 3
            phase, greatest = self.assert_strongest(room, many, 7)
            self.assertEqual(roots.sign_of(greatest), 1)
            self.assertIsNone(stars.better_choice(room, many, 7, phase))
        many = sum(room[0]) + 1
        self.assertRaises(NoChoice, stars.strongest, room, max(many, sum(room[1]) + 1), 7)

    def test_even_rooms_are_alike_for_all_harmonics_of_an_order(self):
        for slots in (5, 6, 8, 9, 12):
            for forward, backward in ((1, 1), (2, 1), (0, 1), (1, 3)):
                room = ((forward,) * slots, (backward,) * slots)
                for many in {1, 2, choices_of(room)} - {0}:
                    if many > choices_of(room):
                        continue
                    by_order = {}
                    for h in range(-2, slots + 2):
                        size = stars.greatest_size(room, many, h)
                        self.assertEqual(by_order.setdefault(harmonics.order_of(slots, h), size), size)


class BeltsTest(unittest.TestCase):
    def belts(self, slots, h, many):
        """The rows of so many wide belts, direction by direction."""
        order = harmonics.order_of(slots, h)
        told = [[0] * slots for _ in range(many)]
        for j, direction in enumerate(stars.star(slots, h)):
            for slot in direction:
                for i in range(many):
                    if i * order <= many * j < (i + 1) * order:
                        told[i][slot] = 1
        return tuple(tuple(row) for row in told)

    def test_wide_belts(self):
        for slots in (2, 3, 5, 6, 8, 12, 30, 60):
            for h in (0, 1, 2, 3, -1, slots + 1, BIG):
                order = harmonics.order_of(slots, h)
                for many in range(1, 7):
                    if order % many == 0:
                        self.assertEqual(stars.wide_belts(slots, h, many), self.belts(slots, h, many))
                        self.assert_turned(stars.wide_belts(slots, h, many), h)
                    else:
                        self.assertRaises(NoBelts, stars.wide_belts, slots, h, many)

    def test_narrow_belts(self):
        for slots in (2, 3, 5, 6, 9, 10, 12, 15, 30, 60):
            for h in (0, 1, 2, 3, -1, slots + 1, BIG):
                order = harmonics.order_of(slots, h)
                for many in (1, 3, 5):
                    if order % many != 0:
                        self.assertRaises(NoBelts, stars.narrow_belts, slots, h, many)
                        continue
                    sectors = [[] for _ in range(2 * many)]
                    for j, direction in enumerate(stars.star(slots, h)):
                        for s in range(2 * many):
                            if s * order <= 2 * many * j < (s + 1) * order:
                                sectors[s] += direction
                    wanted = tuple(
                        tuple((slot in sectors[2 * i]) - (slot in sectors[(2 * i + many) % (2 * many)])
                              for slot in range(slots)) for i in range(many))
                    self.assertEqual(stars.narrow_belts(slots, h, many), wanted)
                    self.assert_turned(wanted, h)
        for many in (2, 4, 6):
            self.assertRaises(InvalidNumber, stars.narrow_belts, 60, 1, many)

    def assert_turned(self, belts, h):
        """Each row is the one before it turned, and there are such turns."""
        slots, many = len(belts[0]), len(belts)
        turns = [t for t in range(slots) if (many * h * t - slots) % (many * slots) == 0]
        self.assertGreater(len(turns), 0)
        for t in turns:
            for i in range(many):
                self.assertEqual(belts[i], rows.turned_row(belts[i - 1], t))

    def test_each_slot_lies_in_one_belt(self):
        for slots in divisors(60)[1:]:
            for many in (1, 3, 5):
                if slots % many == 0:
                    for belts in (stars.narrow_belts(slots, 1, many), stars.wide_belts(slots, 1, many)):
                        self.assertEqual([sum(map(abs, numbers)) for numbers in zip(*belts)], [1] * slots)
        full = stars.narrow_belts(harmonic=1, phases=3, slots=36)
        self.assertEqual(full[0], (1,) * 6 + (0,) * 12 + (-1,) * 6 + (0,) * 12)


if __name__ == "__main__":
    unittest.main()
