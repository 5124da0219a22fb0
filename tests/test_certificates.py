"""Certificates: claims that are so, with papers that the checker accepts, and the arguments as they were passed: [46]."""

import random
import unittest

from claims import Claims
from makers import BIG, RATES, any_phase, any_row, divisors
from slotstars import certificates as made
from slotstars import errors, rows, waves
from slotstars.checker import accepts
from some_windings import FULL, LONE, SHORT, flat_windings, random_winding, windings_that_are_not_flat

ROW = (1, 0, -1, 0, 0, 0)
EXCLUDED = [
    ("there", "gone"), ("same sizes", "unlike sizes"), ("lacks", "has"), ("phase with", "no phase with"),
    ("can balance", "cannot balance"), ("has step", "no step"), ("full", "not full"), ("alike", "unlike"), ("quiet", "loud"),
    ("shares", "no sharing"), ("joins", "no joining"), ("parted", "never parted"), ("greatest", "better"),
    ("of span", "not of span"), ("wave", "no wave"), ("leak below", "leak above"), ("repeat", "no repeat"), ("pull", "no pull"),
    ("ripple", "no ripple"),
]
OTHER_WORD = {one: other for pair in EXCLUDED for one, other in (pair, pair[::-1])}
# The function for the claims of each word, and the claim's parts that are no argument of it.
FUNCTIONS = {
    "there": made.certify_harmonic, "gone": made.certify_harmonic, "sizes": made.certify_sizes,
    "same sizes": made.certify_same_sizes, "unlike sizes": made.certify_same_sizes, "lacks": made.certify_lacking,
    "has": made.certify_lacking, "phase with": made.certify_phase, "no phase with": made.certify_phase,
    "balanced": made.certify_balance, "unbalanced": made.certify_balance, "nothing": made.certify_balance,
    "always balanced": made.certify_always, "can balance": made.certify_balancing,
    "cannot balance": made.certify_balancing, "has step": made.certify_step, "no step": made.certify_step,
    "full": made.certify_full, "not full": made.certify_full, "alike": made.certify_alike, "unlike": made.certify_alike,
    "quiet": made.certify_ways, "loud": made.certify_ways, "shares": made.certify_sharing,
    "no sharing": made.certify_sharing, "joins": made.certify_joining, "no joining": made.certify_joining,
    "parted": made.certify_parting, "never parted": made.certify_parting, "greatest": made.certify_choice,
    "better": made.certify_choice, "of span": made.certify_span, "not of span": made.certify_span,
    "fewest": made.certify_fewest, "ends": made.certify_ends, "wave": made.certify_wave, "no wave": made.certify_wave,
    "alike waves": made.certify_classes, "two waves": made.certify_classes, "leak below": made.certify_leak,
    "leak above": made.certify_leak, "repeat": made.certify_repeat, "no repeat": made.certify_repeat,
    "pull": made.certify_pull, "no pull": made.certify_pull, "ripple": made.certify_ripple, "no ripple": made.certify_ripple,
}
TOLD_BEHIND = {"sizes": 1, "balanced": 1, "fewest": 1, "ends": 1, "alike waves": 1}


class CertificatesTest(unittest.TestCase):
    def setUp(self):
        self.chance = random.Random(460)

    def assert_certified(self, function, arguments, words):
        """The claim, after a look at its form, its arguments and its paper."""
        told = function(*arguments)
        self.assertIs(type(told), tuple)
        claim, paper = told
        self.assertIn(claim[0], words)
        self.assertEqual(len(claim), len(arguments) + 1 + TOLD_BEHIND.get(claim[0], 0))
        for part, argument in zip(claim[1:], arguments):
            self.assertIs(part, argument)
        self.assertIs(accepts(claim, paper), True, told)
        other = OTHER_WORD.get(claim[0])
        if other is not None:
            for one in (paper, (), 0, 1):
                self.assertIs(accepts((other, *claim[1:]), one), False)
        return claim, paper

    def test_all_claims_that_are_so(self):
        for claim, is_so, papers in Claims(random.Random(461)).told:
            if not is_so:
                continue
            function = FUNCTIONS[claim[0]]
            arguments = claim[1:len(claim) - TOLD_BEHIND.get(claim[0], 0)]
            if claim[0] == "alike waves":
                arguments = claim[1:3]
                told, paper = function(*arguments)
                self.assertIs(accepts(told, paper), True)
                self.assertEqual(told[0], "alike waves")
                continue
            told, paper = self.assert_certified(function, arguments, (claim[0],))
            self.assertEqual(told, claim)
            if papers == [()] and claim[0] != "lacks":
                self.assertEqual(paper, ())

    def test_rows(self):
        for slots in (2, 3, 12, 59, 60):
            for reach in (1, BIG):
                row, other = any_row(self.chance, slots, reach), any_phase(self.chance, slots, reach)
                for h in (0, 1, -2, slots // 2, BIG):
                    for one in (row, other):
                        self.assert_certified(made.certify_harmonic, (one, h), ("there", "gone"))
                    claim, _ = self.assert_certified(made.certify_sizes, (row, h, other, -h), ("sizes",))
                    self.assertEqual(accepts(claim[:-1] + (-claim[-1],), ()), claim[-1] == 0)
                self.assert_certified(made.certify_same_sizes, (row, rows.turned_row(row, 5)), ("same sizes",))
                self.assert_certified(made.certify_same_sizes, (row, row[::-1]), ("same sizes",))
                self.assert_certified(made.certify_same_sizes, (row, (BIG, *row[1:])), ("unlike sizes",))
                for orders in ((), (1,), tuple(divisors(slots)), tuple(divisors(slots)[1:3])):
                    self.assert_certified(made.certify_lacking, (row, orders), ("lacks", "has"))
                    self.assert_certified(made.certify_lacking, (other, orders), ("lacks", "has"))
                    for h in (0, 1, 2, -slots - 1):
                        self.assert_certified(made.certify_phase, (slots, h, orders), ("phase with", "no phase with"))

    def test_balance(self):
        for winding in (FULL, SHORT, FULL[:1], FULL[:2], (FULL[0],) * 6, random_winding(self.chance, 59, BIG), ((0, 0),)):
            slots = len(winding[0])
            for h in (*range(-2, 8), BIG):
                claim, _ = self.assert_certified(made.certify_balance, (winding, h), ("balanced", "unbalanced", "nothing"))
                others = [("balanced", winding, h, rate) for rate in RATES] + [("unbalanced", winding, h), ("nothing", winding, h)]
                self.assertEqual([one for one in others if accepts(one, ())], [claim])
            told = made.certify_always(winding)
            self.assertIs(accepts(*told), True)
            self.assertIs(told[0][1], winding)
            self.assertEqual(accepts(("always balanced", winding), ()), told[0][0] == "always balanced")
            for step in ((0, 1), (2 % slots, 1), (5 % slots, -1), (slots - 1, -1)):
                self.assert_certified(made.certify_step, (winding, step), ("has step", "no step"))
        for slots in (2, 3, 9, 12, 59, 60):
            for phases in (1, 2, 3, 6):
                for rate in RATES:
                    for h in (0, 1, 4, -3):
                        self.assert_certified(made.certify_balancing, (slots, phases, h, rate), ("can balance", "cannot balance"))

    def test_full(self):
        for slots in (2, 6, 9, 12, 15, 60):
            for phases in (1, 2, 3, 5, 6):
                for conductors in (1, 2, 60):
                    for rate in ((1, 0), (3, 1), (6, 5), (5, 2)):
                        for h in (1, 2):
                            self.assert_certified(made.certify_full, (slots, phases, conductors, h, rate), ("full", "not full"))

    def test_windings(self):
        more = tuple(rows.added_rows(phase, ROW) for phase in FULL)
        for winding, other in ((FULL, FULL), (FULL, more), (FULL, SHORT), (FULL, FULL[::-1]), (FULL[:1], SHORT[:1])):
            for kind in ("any", "closed", ("even", (3, 1)), ("even", (1, 0)), ("even", (4, 3))):
                self.assert_certified(made.certify_alike, (winding, other, kind), ("alike", "unlike"))
            self.assert_certified(made.certify_parting, (winding, other), ("parted", "never parted"))
        for slots in (2, 7, 12, 60):
            for phases in (1, 2, 6):
                winding = tuple(any_phase(self.chance, slots, 2) for _ in range(phases))
                turned = tuple(rows.turned_row(phase, 3) for phase in winding)
                changed = winding[:-1] + (rows.turned_row(winding[-1], 1),)
                for other, words in ((turned, ("never parted",)), (changed, ("parted", "never parted")),
                                     (tuple(rows.mirrored_row(phase) for phase in winding), ("never parted",)),
                                     (tuple(rows.scaled_row(phase, -1) for phase in winding), ("never parted",))):
                    self.assert_certified(made.certify_parting, (winding, other), words)
                    self.assert_certified(made.certify_alike, (winding, other, "closed"), ("alike", "unlike"))

    def test_windings_that_only_sums_of_two_phases_part(self):
        winding = ((1, 0, -1, 0, 0, 0), (1, 0, -1, 0, 0, 0), (0, 1, 0, -1, 0, 0))
        other = (winding[0], winding[2], winding[2])
        for one in (other, other[::-1], winding[::-1], winding[1:] + winding[:1]):
            self.assert_certified(made.certify_parting, (winding, one), ("parted", "never parted"))
        claim, (signs, _) = made.certify_parting(winding, other)
        self.assertEqual((claim[0], sum(map(abs, signs))), ("parted", 2))

    def test_groups(self):
        near = (1, 0, 0, -1) + (0,) * 8
        groups = tuple(rows.turned_row(near, turn) for turn in (0, 6, 1, 7, 2, 8, 3, 9))
        for many in (1, 2, 4, 5, 8):
            for orders in ((), (1, 2, 3, 6), (4, 12)):
                self.assert_certified(made.certify_sharing, (groups, many, orders), ("shares", "no sharing"))
        for many in (2, 3, 8):
            for orders in ((), (1,), (1, 2, 3, 6), (2, 4), (12,)):
                self.assert_certified(made.certify_ways, (groups[:many], orders), ("quiet", "loud"))
        for phases in (1, 2, 3):
            for h in (0, 1, 2, 3):
                for rate in RATES:
                    self.assert_certified(made.certify_joining, (groups[:4], phases, h, rate), ("joins", "no joining"))
        self.assert_certified(made.certify_joining, (groups[:6], 3, 1, (3, 1)), ("joins", "no joining"))

    def test_choices_spans_and_ends(self):
        room = tuple(tuple(self.chance.randint(1, 2) for _ in range(9)) for _ in range(2))
        for phase in ((0,) * 9, (1, 0, 0, 0, -1, 0, 0, 0, 0), (1, 1, 0, 0, 0, -1, -1, 0, 0)):
            for h in (0, 1, 3, -4):
                for many in (3, 4):
                    self.assert_certified(made.certify_choice, (room, many, h, phase), ("greatest", "better"))
        for slots in (2, 3, 12, 59, 60):
            for reach in (1, BIG):
                for phase in (any_phase(self.chance, slots, reach), (1, -1) + (0,) * (slots - 2), (0,) * slots):
                    self.assert_certified(made.certify_ends, (phase,), ("ends",))
                    for span in sorted({1, slots // 2, slots - 1, slots // 3 or 1}):
                        claim, _ = self.assert_certified(made.certify_span, (phase, span), ("of span", "not of span"))
                        if claim[0] == "of span":
                            self.assert_certified(made.certify_fewest, (phase, span), ("fewest",))
                        else:
                            with self.assertRaises(errors.NoStarts):
                                made.certify_fewest(phase, span)

    def test_waves(self):
        for winding in windings_that_are_not_flat(self.chance) + flat_windings(self.chance):
            slots = len(winding[0])
            for h in (0, 1, -2, slots - 1, BIG):
                self.assert_certified(made.certify_wave, (winding, h), ("wave", "no wave"))
            for many in (1, 2, 3, 4, slots, slots + 1, BIG):
                told, paper = made.certify_classes(winding, many)
                self.assertIs(accepts(told, paper), True)
                self.assertIs(told[1], winding)
                self.assertIs(told[2], many)
                there = waves.waves(winding)
                alike = len({h % many for h in there for h in (h, h + slots)}) <= 1
                self.assertEqual(told[0], "alike waves" if alike else "two waves")
                self.assertEqual(told[3:], ((there[0] % many if there else 0),) if alike else ())
            for h in waves.waves(winding)[:3]:
                for fraction in ((1, 2), (0, 1), (BIG, 7), (-3, 1)):
                    self.assert_certified(made.certify_leak, (winding, h - slots, fraction), ("leak below", "leak above"))
            for turn, sixths in ((0, 0), (1, 5), (slots // 2, 3), (slots * BIG, 6 * BIG), (-1, 1)):
                self.assert_certified(made.certify_repeat, (winding, turn, sixths), ("repeat", "no repeat"))
            self.assert_certified(made.certify_pull, (winding,), ("pull", "no pull"))
            for pairs, many in ((1, 0), (1, 3), (60, 1), (7, BIG)):
                self.assert_certified(made.certify_ripple, (winding, pairs, many), ("ripple", "no ripple"))

    def test_told_values(self):
        self.assertEqual(made.certify_classes(many=5, winding=FULL), (("two waves", FULL, 5), (1, 7)))
        self.assertEqual(made.certify_classes(((0, 0),) * 3, 7), (("alike waves", ((0, 0),) * 3, 7, 0), ()))
        self.assertEqual(made.certify_pull(LONE), (("pull", LONE), 0))
        self.assertEqual(made.certify_always((FULL[0], FULL[0], FULL[1])),
                         (("unbalanced", (FULL[0], FULL[0], FULL[1]), 1), ()))


if __name__ == "__main__":
    unittest.main()
