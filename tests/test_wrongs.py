"""Wrong coils, the windings that they make, and the pairs that no test parts: [26], [27]."""

import random
import unittest
from itertools import combinations, product

from makers import BIG
from slotstars import readings, rows, wrongs
from slotstars.errors import InvalidCoils, InvalidWrong, TooMany


def any_coils(chance, many, slots, phases, turns=(-2, -1, 1, 2)):
    """So many coils."""
    return tuple((chance.randrange(phases), *chance.sample(range(slots), 2), chance.choice(turns)) for _ in range(many))


def wound(coils, slots, phases):
    """What the coils make, slot by slot."""
    return tuple(
        tuple(sum(turns * ((slot == start) - (slot == end)) for place, start, end, turns in coils if place == phase)
              for slot in range(slots))
        for phase in range(phases)
    )


def changed(coils, wrong):
    """The coils as the wrong has them: those that are left, with their phases and turns."""
    rest = []
    for place, (phase, start, end, turns) in enumerate(coils):
        if wrong[0] == "out" and wrong[1] == place:
            continue
        if wrong[0] == "turned" and wrong[1] == place:
            turns = -turns
        if wrong[0] == "swapped" and place in wrong[1:]:
            phase = coils[sum(wrong[1:]) - place][0]
        rest.append((phase, start, end, turns))
    return tuple(rest)


def all_tests(slots, phases):
    """All tests with harmonics from 0 on below the number of slots."""
    return [(signs, h) for signs in product((-1, 0, 1), repeat=phases) if any(signs) for h in range(slots)]


class WrongsTest(unittest.TestCase):
    def setUp(self):
        self.chance = random.Random(26)

    def some_coils(self):
        yield ()
        for many in range(1, 9):
            for phases in (1, 2, 3, 6):
                yield any_coils(self.chance, many, 7, phases)
        yield ((0, 0, 1, 1),) * 8
        yield ((0, 0, 1, 1), (1, 0, 1, 1), (0, 0, 1, 1))
        yield ((0, 0, 1, BIG), (5, 6, 3, -BIG))

    def test_all_wrongs_in_their_order(self):
        for coils in self.some_coils():
            many = len(coils)
            wanted = [("right",)] + [("turned", k) for k in range(many)] + [("out", k) for k in range(many)]
            for first in range(many):
                for second in range(first + 1, many):
                    if coils[first][0] != coils[second][0]:
                        wanted.append(("swapped", first, second))
            self.assertEqual(wrongs.wrongs_of(coils), tuple(wanted))
        self.assertEqual(wrongs.wrongs_of(()), (("right",),))
        self.assertEqual(len(wrongs.wrongs_of(tuple((k % 6, 0, 1, 1) for k in range(8)))), 1 + 8 + 8 + 26)

    def test_wrong_windings(self):
        for coils in self.some_coils():
            for wrong in wrongs.wrongs_of(coils):
                winding = wrongs.wrong_winding(coils, 7, 6, wrong)
                self.assertEqual(winding, wound(changed(coils, wrong), 7, 6))
                self.assertTrue(rows.is_winding(winding))
            self.assertEqual(wrongs.wrong_winding(coils, 7, 6, ("right",)), rows.winding_of(coils, 7, 6))
        self.assertEqual(wrongs.wrong_winding(phases=1, wrong=("right",), slots=60, coils=()), ((0,) * 60,))
        self.assertEqual(wrongs.wrong_winding(((0, 59, 0, 2),), 60, 1, ("out", 0)), ((0,) * 60,))
        self.assertEqual(wrongs.wrong_winding(((0, 1, 0, 2),), 2, 1, ("turned", 0)), ((2, -2),))

    def test_wrongs_of_coils_of_one_phase_are_not_swapped(self):
        coils = ((0, 0, 1, 1), (1, 0, 1, 1), (0, 2, 1, 1))
        for wrong in (("swapped", 0, 2), ("swapped", 1, 0), ("swapped", 2, 2), ("out", 3), ("turned", 3)):
            with self.assertRaises(InvalidWrong) as held:
                wrongs.wrong_winding(coils, 6, 2, wrong)
            self.assertIs(held.exception.given, wrong)
        with self.assertRaises(InvalidWrong):
            wrongs.wrong_winding((), 6, 2, ("out", 0))

    def test_indexes_of_many_coils(self):
        coils = tuple((k % 2, 0, 1, 1) for k in range(60))
        for wrong in (("out", 59), ("turned", 8), ("swapped", 58, 59)):
            with self.assertRaises(TooMany) as held:
                wrongs.wrong_winding(coils, 6, 2, wrong)
            self.assertEqual(held.exception.given, 60)
        for wrong in (("out", 60), ("swapped", 57, 59), ("swapped", 59, 58)):
            with self.assertRaises(InvalidWrong):
                wrongs.wrong_winding(coils, 6, 2, wrong)

    def test_bounds_of_coils(self):
        for many in (9, 10, 60):
            coils = ((0, 0, 1, 1),) * many
            for call in (lambda: wrongs.wrongs_of(coils), lambda: wrongs.blind_pairs(coils, 6, 1)):
                with self.assertRaises(TooMany) as held:
                    call()
                self.assertEqual(held.exception.given, many)
        with self.assertRaises(InvalidCoils) as held:
            wrongs.wrongs_of(((0, 0, 1, 1),) * 61)
        self.assertEqual(held.exception.index, 60)


class BlindTest(unittest.TestCase):
    def test_blind_pairs_against_all_tests(self):
        chance = random.Random(27)
        blind, seen = 0, 0
        for slots, phases in ((2, 1), (2, 2), (3, 1), (3, 2), (4, 1), (4, 2), (5, 2), (6, 1), (6, 2), (4, 3), (3, 3)):
            for many in (0, 1, 2, 3):
                coils = any_coils(chance, many, slots, phases)
                windings = [wound(changed(coils, wrong), slots, phases) for wrong in wrongs.wrongs_of(coils)]
                told = [tuple(readings.reading_of(winding, test) for test in all_tests(slots, phases))
                        for winding in windings]
                wanted = tuple((first, second) for first, second in combinations(range(len(told)), 2)
                               if told[first] == told[second])
                self.assertEqual(wrongs.blind_pairs(coils, slots, phases), wanted)
                blind += len(wanted)
                seen += len(told) * (len(told) - 1) // 2
        self.assertGreater(blind, 20)
        self.assertGreater(seen - blind, 100)

    def test_coils_that_are_alike(self):
        # Both are turned or out to the same effect; one phase alone does not tell its sign.
        coils = ((0, 0, 3, 1), (0, 0, 3, 1))
        self.assertEqual(wrongs.blind_pairs(coils, 6, 1), ((1, 2), (3, 4)))
        self.assertEqual(wrongs.blind_pairs(coils[:1], 6, 1), ((0, 1),))
        self.assertEqual(wrongs.blind_pairs((), 6, 1), ())
        eight = ((2, 0, 3, BIG),) * 8
        pairs = wrongs.blind_pairs(eight, 6, 3)
        wanted = [pair for first in (1, 9) for pair in combinations(range(first, first + 8), 2)]
        self.assertEqual(pairs, tuple(sorted(wanted)))

    def test_eight_coils_of_six_phases(self):
        chance = random.Random(271)
        coils = tuple((k % 6, *chance.sample(range(60), 2), chance.randint(1, BIG)) for k in range(8))
        many = len(wrongs.wrongs_of(coils))
        traces = [wrongs.wrong_winding(coils, 60, 6, wrong) for wrong in wrongs.wrongs_of(coils)]
        wanted = tuple((first, second) for first, second in combinations(range(many), 2)
                       if readings.never_parted(traces[first], traces[second]))
        self.assertEqual(wrongs.blind_pairs(coils, 60, 6), wanted)


if __name__ == "__main__":
    unittest.main()
