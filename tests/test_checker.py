"""The checker: what is so is accepted with its papers, what is not so is refused whatever the paper; it never raises: [46]."""

import inspect
import random
import unittest

from claims import Claims, least_ends
from makers import BIG, any_phase
from slotstars import ends, lattices, rows
from slotstars.checker import accepts
from some_windings import FULL, LONE, SHORT
from wrong_values import PLAIN, Thing

WORDS = {
    "there", "gone", "sizes", "same sizes", "unlike sizes", "lacks", "has", "phase with", "no phase with", "balanced",
    "unbalanced", "nothing", "always balanced", "can balance", "cannot balance", "has step", "no step", "full", "not full",
    "alike", "unlike", "quiet", "loud", "shares", "no sharing", "joins", "no joining", "parted", "never parted", "greatest",
    "better", "of span", "not of span", "fewest", "ends", "wave", "no wave", "alike waves", "two waves", "leak below",
    "leak above", "repeat", "no repeat", "pull", "no pull", "ripple", "no ripple",
}
ROW = (1, 0, -1, 0, 0, 0)
ROOM = ((1,) * 6, (1,) * 6)
# One claim of each word that is so, with a right paper.
RIGHT = [
    (("there", ROW, 1), ()), (("gone", ROW, 0), ()), (("sizes", ROW, 1, FULL[0], 1, -1), ()),
    (("same sizes", ROW, (0, 0, 1, 0, -1, 0)), ()), (("unlike sizes", ROW, FULL[0]), 1), (("lacks", ROW, (1, 2)), (-1, 0, 0, 0)),
    (("has", ROW, (1, 3)), 3), (("phase with", 6, 1, (2,)), (-1, 0, 1, 0, 0, 0)), (("no phase with", 6, 3, (2,)), ()),
    (("balanced", FULL, 1, (3, 1)), ()), (("unbalanced", LONE, 1), ()), (("nothing", FULL, 2), ()),
    (("always balanced", FULL), ()), (("can balance", 6, 3, 1, (3, 1)), FULL), (("cannot balance", 6, 3, 1, (4, 1)), ()),
    (("has step", FULL, (2, 1)), ()), (("no step", FULL, (1, 1)), ()), (("full", 6, 3, 1, 1, (3, 1)), (FULL, (5, -1))),
    (("not full", 9, 3, 1, 1, (3, 1)), ()), (("alike", FULL, FULL, "any"), ()), (("unlike", FULL, SHORT, ("even", (3, 1))), 2),
    (("quiet", FULL, (3,)), ()), (("loud", FULL, (1, 2, 6)), 6), (("shares", FULL, 1, (2,)), (0, 0, 0)),
    (("no sharing", FULL, 2, (6,)), ()), (("joins", FULL, 3, 1, (3, 1)), ((0, 1), (1, 1), (2, 1))),
    (("no joining", FULL, 3, 1, (4, 1)), ()), (("parted", FULL, SHORT), ((1, 0, 0), 1)), (("never parted", FULL, FULL[::-1]), ()),
    (("greatest", ROOM, 2, 1, (1, 1, 0, -1, -1, 0)), ()), (("better", ROOM, 2, 1, ROW), (1, 1, 0, -1, -1, 0)),
    (("of span", ROW, 2), (1, 0, 0, 0, 0, 0)), (("not of span", ROW, 3), 0), (("fewest", ROW, 2, 1), (1, 0, 0, 0, 0, 0)),
    (("ends", ROW, 2), (((0, 0, 2, 1),), 0)), (("wave", FULL, 1), ()), (("no wave", FULL, 2), ()),
    (("alike waves", FULL, 3, 1), ()), (("two waves", SHORT, 2), (1, 4)), (("leak below", FULL, 1, (1, 10)), ()),
    (("leak above", FULL, -5, (26, 1)), ()), (("repeat", FULL, 1, 5), ()), (("no repeat", FULL, 1, 4), ()),
    (("pull", SHORT), 0), (("no pull", FULL), ()), (("ripple", FULL, 1, 3), ()), (("no ripple", FULL, 1, 1), ()),
]
PAPERS = ((),) + PLAIN + (
    0, 1, 2, 3, 5, 6, -1, BIG, (0,), (1,), (0, 0), (0, 1), (1, 2), (1, 7), (1, 0, -1), (1, -1), FULL, SHORT, FULL[0], (FULL, (2, 1)),
    (0, 0, 0), (0, 1, 2), ((0, 1), (1, 1), (2, 1)), ((1, 0, 0), 1), ((0, 0, 1), -1), (1, 0, 0, 0, 0, 0), (0,) * 6, (1, 4), (4, -1),
    (((0, 0, 2, 1),), 0), (((0, 0, 1, 1),), 0), "there", ("there", ROW, 1), ((),), [()], (1, -1, 0, 0),
)


class TruthTest(unittest.TestCase):
    @classmethod
    def setUpClass(cls):
        cls.told = Claims(random.Random(46)).told

    def test_all_words(self):
        self.assertEqual({claim[0] for claim, _, _ in self.told}, WORDS)
        for word in WORDS:
            self.assertEqual({is_so for claim, is_so, _ in self.told if claim[0] == word}, {True, False}, word)

    def test_what_is_so_is_accepted_with_right_papers(self):
        for claim, is_so, papers in self.told:
            if is_so and claim[0] != "ends":
                self.assertNotEqual(papers, [], claim)
                for paper in papers:
                    self.assertIs(accepts(claim, paper), True, (claim, paper))

    def test_what_is_not_so_is_refused_whatever_the_paper(self):
        chance = random.Random(4646)
        all_papers = [paper for _, _, papers in self.told for paper in papers or ()]
        for claim, is_so, _ in self.told:
            if not is_so:
                for paper in ((), *chance.sample(PAPERS, 4), *chance.sample(all_papers, 6)):
                    self.assertIs(accepts(claim, paper), False, (claim, paper))

    def test_papers_for_claims_that_need_none(self):
        chance = random.Random(464)
        for claim, is_so, papers in self.told:
            if is_so and papers == [()] and claim[0] != "lacks":
                for paper in chance.sample(PAPERS, 5):
                    if paper != () or isinstance(paper, Thing):
                        self.assertIs(accepts(claim, paper), False, (claim, paper))

    def test_all_words_with_all_papers_of_odd_forms(self):
        self.assertEqual({claim[0] for claim, _ in RIGHT}, WORDS)
        for claim, right in RIGHT:
            self.assertIs(accepts(claim, right), True, claim)
            self.assertIs(accepts(paper=right, claim=claim), True)
            for paper in PAPERS:
                told = accepts(claim, paper)
                self.assertIs(told, bool(told))
                if right == () or not isinstance(paper, (tuple, int)) or isinstance(paper, bool):
                    self.assertIs(told, type(paper) is tuple and paper == () and right == (), (claim, paper))


class PapersTest(unittest.TestCase):
    """Right papers and papers nearly right, word for word."""

    def assert_papers(self, claim, right, wrong):
        for paper in right:
            self.assertIs(accepts(claim, paper), True, (claim, paper))
        for paper in wrong:
            self.assertIs(accepts(claim, paper), False, (claim, paper))

    def test_harmonics_and_orders(self):
        self.assert_papers(("unlike sizes", ROW, FULL[0]), (1, -1, 2, 3, 7, 1 + 6 * BIG), (0, 6, True, (1,), "1", None, ()))
        self.assert_papers(("has", ROW, (1, 3, 6)), (3, 6), (1, 2, True, (3,), "3", None, (), -3, 12, 0))
        self.assert_papers(("has", (1, 1), (1,)), (1,), (True, 0, 2, ()))
        self.assert_papers(("loud", LONE, (1, 4, 2)), (2, 4), (1, True, 3, 0, -2, (2,), None, ()))
        self.assert_papers(("loud", FULL, (2, 6, 3)), (6,), (2, 3, 1, 0, (2,), None, ()))
        self.assert_papers(("unlike", FULL, SHORT, "any"), (1, 2, -1, 6 * BIG + 2, 3), (0, 6, True, None, (1,), ()))

    def test_shares(self):
        chance = random.Random(12)
        for slots in (2, 4, 6, 12):
            for orders in ((), (1,), (1, 2), (2, slots) if slots > 2 else (2,)):
                base = lattices.lacking_base(slots, orders)
                shares = tuple(chance.randint(-2, 2) for _ in base)
                row = (0,) * slots
                for share, one in zip(shares, base):
                    row = rows.added_rows(row, rows.scaled_row(one, share))
                nearly = [shares + (0,), list(shares), (shares,), (*shares[:-1], None), None, 0]
                nearly += [shares[:k] + (one + 1,) + shares[k + 1:] for k, one in enumerate(shares)]
                nearly += [tuple(bool(one) if one in (0, 1) else one for one in shares)] if {0, 1} & set(shares) else []
                self.assert_papers(("lacks", row, orders), (shares,), nearly)

    def test_phases_and_windings(self):
        self.assert_papers(("phase with", 6, 1, (2,)), (ROW, (-1, 0, 1, 0, 0, 0), (0, 1, 0, -1, 0, 0)), (
            (1, 0, 0, -1, 0, 0), (1, 0, -1, 0, 0, 1), (1, 0, -1), (0,) * 6, list(ROW), (1, 0, -1, 0, 0, False), (ROW,), ()))
        self.assert_papers(("can balance", 6, 3, 1, (3, 1)), (FULL, SHORT), (
            FULL[::-1], FULL[:2], (FULL[0],) * 3, list(FULL), FULL + FULL[:1], (), FULL[0], ((0,) * 6,) * 3,
            tuple(phase * 2 for phase in FULL), FULL[1:] + ([0, 1, 0, 0, -1, 0],)))
        self.assert_papers(("full", 6, 3, 1, 1, (3, 1)), ((FULL, (2, 1)), (FULL, (5, -1))), (
            (FULL, (1, 1)), (FULL, (2, -1)), FULL, (FULL,), (FULL, (2, 1), 0), [FULL, (2, 1)], (FULL, [2, 1]), (FULL, (8, 1)),
            (FULL, (2, True)), (FULL[::-1], (4, 1)), (SHORT, (2, 1)), ((2, 1), FULL), (FULL, None), ()))

    def test_sharings_and_joinings(self):
        near = (1, 0, 0, -1, 0, 0, 0, 0, 0, 0, 0, 0)
        groups = tuple(rows.turned_row(near, turn) for turn in (0, 6, 1, 7))
        self.assert_papers(("shares", groups, 2, (1, 2, 3, 6)), ((0, 1, 0, 1), (0, 1, 1, 0)), (
            (0, 0, 1, 1), (0, 1, 1, 1), (1, 0, 1, 0), (0, 0, 0, 0), (0, 1, 0), (0, 1, 0, 1, 0), [0, 1, 0, 1], (0, 1, 0, True),
            (0, 1, 2, 0), (0, 2, 0, 2), (), None))
        self.assert_papers(("shares", groups, 1, (4,)), ((0, 0, 0, 0),), ((0, 1, 0, 1), (0, 0, 0), (False, 0, 0, 0), (), 0))
        self.assert_papers(("joins", FULL, 3, 1, (3, 2)), (
            ((0, 1), (2, 1), (1, 1)), ((0, -1), (2, -1), (1, -1)), ((1, 1), (0, 1), (2, 1))), (
            ((0, 1), (1, 1), (2, 1)), ((0, 1), (2, 1)), ((0, 1), (2, 1), (1, -1)), [(0, 1), (2, 1), (1, 1)],
            ((0, 1), (2, 1), (1, True)), ((0, 1), (2, 1), (3, 1)), ((0, 1), (2, 1), (1, 0)), ()))

    def test_tests_and_choices(self):
        self.assert_papers(("parted", FULL, SHORT), (((1, 0, 0), 1), ((0, -1, 0), 5), ((1, 0, 0), 1 + 6 * BIG)), (
            ((1, 0, 0), 0), ((0, 0, 0), 1), ((1, 0), 1), ((1, 0, 0, 0), 1), ((2, 0, 0), 1), [(1, 0, 0), 1], ((1, 0, 0),),
            ((1, 0, 0), True), ((True, 0, 0), 1), ((1, 0, 0), 1, 1), ()))
        self.assert_papers(("better", ROOM, 2, 1, ROW), ((1, 1, 0, -1, -1, 0), (1, 0, 0, -1, 0, 0)), (
            ROW, (2, 2, 0, -2, -2, 0), (3, 0, 0, -3, 0, 0), (1, 1, 0, -1, -1), (1, 0, 0, -1), [1, 1, 0, -1, -1, 0], (), None,
            (1, True, 0, -1, -1, 0), ((1, 1, 0, -1, -1, 0),)))

    def test_starts(self):
        self.assert_papers(("of span", ROW, 2), ((1, 0, 0, 0, 0, 0), (2, 0, 1, 0, 1, 0), (1, 5, 0, 5, 0, 5), (0, 0, -1, 0, -1, 0)), (
            (0, 1, 0, 0, 0, 0), (0, 0, 0, 0, 0, 0), (-1, 0, 0, 0, 0, 0), (1, 0, 0, 0, 0), (1, 0, 0), (True, 0, 0, 0, 0, 0),
            [1, 0, 0, 0, 0, 0], (1, 0, 0, 0, 0, 0, 0), (), None))
        self.assert_papers(("not of span", (1, 0, -1, 1, 0, -1), 3), (0, 2, 3, 5), (1, 4, 6, -1, True, False, (0,), None, ()))
        self.assert_papers(("fewest", (1, 0, 0, -1, 0, 0), 1, 3), ((1, 1, 1, 0, 0, 0), (0, 0, 0, -1, -1, -1)), (
            (2, 2, 2, 1, 1, 1), (1, 1, 1, 0, 0), (0, 1, 1, 1, 0, 0), [1, 1, 1, 0, 0, 0], (True, 1, 1, 0, 0, 0), 3, ()))
        self.assertIs(accepts(("fewest", (1, 0, 0, -1, 0, 0), 1, 9), (2, 2, 2, 1, 1, 1)), False)

    def test_ends(self):
        phase = (1, 0, 0, -1, 0, 0)
        self.assert_papers(("ends", phase, 3), (
            (((0, 0, 3, 1),), 0), (((0, 0, 3, 1),), 1), (((0, 3, 0, -1),), 0), (((0, 0, 1, 1), (0, 1, 2, 1), (0, 2, 3, 1)), 1),
            (((0, 0, 5, 1), (0, 5, 3, 1)), 0)), (
            (((0, 0, 3, 1),), 2), (((0, 0, 3, 1),), -1), (((1, 0, 3, 1),), 0), (((0, 0, 3, -1),), 0), ((), 0), (((0, 0, 3, 1),),),
            (((0, 0, 3, 1),), True), (((0, 0, 3, 1),), None), ([(0, 0, 3, 1)], 0), (((0, 0, 3, 1),), 0, 0), ((0, 0, 3, 1), 0),
            (((0, 0, 4, 1), (0, 4, 3, 1), (0, 1, 2, 1), (0, 2, 1, 1)), 0), (((0, 0, 3, 2), (0, 3, 0, 1)), 0), (((0, 0, 9, 1),), 0),
            [((0, 0, 3, 1),), 0], (((0, 0, 3, True),), 0), ()))
        many = (60, 0, -60, 0)
        self.assert_papers(("ends", many, 120), ((((0, 0, 2, 1),) * 60, 0), (((0, 0, 2, 60),), 60), (((0, 0, 2, 2),) * 30, 30)), (
            (((0, 0, 2, 1),) * 59 + ((0, 0, 2, 2),), 0), (((0, 0, 2, 60),), 61)))
        self.assert_papers(("ends", (61, 0, -61, 0), 122), ((((0, 0, 2, 61),), 7),), ((((0, 0, 2, 1),) * 61, 0),))
        chance = random.Random(34)
        for slots in (2, 3, 5, 6, 12, 60):
            for _ in range(6):
                phase = any_phase(chance, slots, 3)
                number = least_ends(phase)
                low, high = ends.levels(phase)
                coils = ends.short_coils(phase)
                right = ((coils, low), (coils, high), (coils[::-1], low))
                self.assert_papers(("ends", phase, number), right, ((coils, low - 1), (coils, high + 1), coils, (low, coils)))
                for wrong in (number - 1, number + 1, -number - 1, True, None):
                    self.assert_papers(("ends", phase, wrong), (), right)

    def test_waves_and_moments(self):
        self.assert_papers(("two waves", SHORT, 2), ((1, 4), (4, 1), (-2, 1), (10, 1), (1 + 6 * BIG, 4)), (
            (1, 7), (1, 2), (2, 1), (3, 4), (2, 3), (1, 1), (4, 4), [1, 4], (1,), (1, 4, 7), (True, 4), (1, None), (), 1))
        self.assert_papers(("two waves", FULL, 4), ((1, 7), (7, 1), (1, -5)), ((1, 13), (1, 5), (1, 1), ()))
        self.assert_papers(("pull", LONE), (0, 1, 2, 4, 5, 6, 11), (3, 9, 12, -1, True, False, None, (0,), "0", ()))


class OddClaimsTest(unittest.TestCase):
    def test_things_that_are_no_claims(self):
        for claim in PLAIN + (([], ROW, 1), ({}, ROW, 1), (["there"], ROW, 1), 0, (), ("there",), ("there", ROW), (None, ROW, 1), (Thing(), ROW, 1), ("There", ROW, 1), 7,
                              (b"there", ROW, 1), ["there", ROW, 1], ("", ROW, 1), "there", (("there", ROW, 1),)):
            for paper in PAPERS:
                self.assertIs(accepts(claim, paper), False)

    def test_parts_more_or_less_and_other_words(self):
        for claim, paper in RIGHT:
            self.assertIs(accepts(list(claim), paper), False)
            for place in range(len(claim)):
                self.assertIs(accepts(claim[:place] + claim[place + 1:], paper), False, claim)
            for more in (None, 0, (), 1, (1, 2), "any", paper):
                self.assertIs(accepts(claim + (more,), paper), False, claim)
            for word in sorted(WORDS) + ["", "there ", "no", "THERE", "is", None, 0]:
                told = accepts((word, *claim[1:]), paper)
                self.assertIs(type(told), bool)
                if word not in WORDS:
                    self.assertIs(told, False)

    def test_odd_things_in_the_place_of_a_part(self):
        odd = PLAIN + ([1], (None,), "abc", ((1,),), ("any",), (1, 2, 3, None), [(1, -1)], True, False)
        for claim, paper in RIGHT:
            for place in range(1, len(claim)):
                for thing in odd:
                    changed = claim[:place] + (thing,) + claim[place + 1:]
                    self.assertIs(accepts(changed, paper), False, changed)
                    self.assertIs(accepts(changed, ()), False, changed)

    def test_odd_things_within_parts(self):
        for claim, paper in RIGHT:
            for place in range(1, len(claim)):
                if isinstance(claim[place], tuple):
                    for at in range(len(claim[place])):
                        for thing in [one for one in PLAIN if one is not claim[place][at]]:
                            part = claim[place][:at] + (thing,) + claim[place][at + 1:]
                            changed = claim[:place] + (part,) + claim[place + 1:]
                            self.assertIs(accepts(changed, paper), False, changed)

    def test_parts_as_lists(self):
        for claim, paper in RIGHT:
            for place in range(1, len(claim)):
                if isinstance(claim[place], tuple):
                    changed = claim[:place] + (list(claim[place]),) + claim[place + 1:]
                    self.assertIs(accepts(changed, paper), False)
                    if claim[place] and isinstance(claim[place][0], tuple):
                        part = (list(claim[place][0]),) + claim[place][1:]
                        self.assertIs(accepts(claim[:place] + (part,) + claim[place + 1:], paper), False)

    def test_what_makes_a_certificate_raise_is_no_claim(self):
        wide, six = (1, 0, -1, 0, 0, 0, 0, 0), FULL + FULL
        small = ((1, 0, 1, 0, 0, 0), (1, 1, 1, 1, 1, 1))
        for claim in (
            ("sizes", ROW, 1, wide, 1, 0), ("same sizes", ROW, wide), ("unlike sizes", ROW, wide), ("lacks", ROW, (4,)),
            ("lacks", ROW, (2, 2)), ("has", ROW, (3, 3)), ("has", ROW, (3, 4)), ("phase with", 6, 1, (2, 4)),
            ("phase with", 61, 1, ()), ("no phase with", 1, 1, ()), ("no phase with", 6, 3, (2, 2)), ("has step", FULL, (6, 1)),
            ("no step", FULL, (6, 1)), ("no step", FULL, (1, 0)), ("cannot balance", 6, 7, 1, (3, 1)),
            ("cannot balance", 6, 3, 1, (3, 3)), ("cannot balance", 61, 3, 1, (4, 1)), ("not full", 9, 3, 0, 1, (3, 1)),
            ("not full", 9, 3, 61, 1, (3, 1)), ("not full", 9, 0, 1, 1, (3, 1)), ("alike", FULL, FULL[:2], "any"),
            ("unlike", FULL, FULL[:2], "any"), ("unlike", FULL, (wide,) * 3, "closed"), ("quiet", FULL[:1], (1,)),
            ("quiet", FULL, (4,)), ("loud", FULL, (6, 6)), ("no sharing", FULL, 9, ()), ("no sharing", FULL, 0, ()),
            ("shares", FULL * 3, 1, ()), ("no joining", six, 4, 1, (4, 1)), ("joins", six, 4, 1, (3, 1)),
            ("no joining", FULL * 3, 1, 1, (2, 1)), ("parted", FULL, FULL[:2]), ("never parted", FULL, FULL[:2]),
            ("greatest", small, 3, 1, ROW), ("greatest", small, 3, 1, wide), ("better", ROOM, 2, 1, (2, 0, 0, 0, -1, -1)),
            ("greatest", ROOM, 0, 1, ROW), ("of span", ROW, 6), ("of span", ROW, 0), ("not of span", ROW, 6),
            ("not of span", ROW, -3), ("fewest", ROW, 3, 1), ("fewest", ROW, 6, 1), ("ends", (1, 0, 0), 1),
            ("wave", FULL[:2], 1), ("no wave", FULL[:2], 1), ("no wave", six, 2), ("alike waves", FULL, 0, 0),
            ("alike waves", FULL, 3, 4), ("alike waves", FULL, 3, -2), ("alike waves", ((0, 0),) * 3, 2, 2),
            ("alike waves", FULL[:2], 3, 1), ("alike waves", FULL, -3, 1), ("two waves", FULL, 0), ("two waves", FULL[:2], 4),
            ("two waves", SHORT, -2), ("leak below", FULL, 0, (1, 2)), ("leak above", FULL, 2, (1, 2)),
            ("leak above", FULL, 1, (2, 4)), ("leak below", FULL, 1, (1, 0)), ("leak below", FULL[:2], 1, (1, 2)),
            ("repeat", FULL[:2], 0, 0), ("no repeat", FULL[:2], 1, 0), ("pull", SHORT[:2]), ("no pull", FULL[:2]),
            ("ripple", FULL, 0, 3), ("ripple", FULL, 61, 3), ("no ripple", FULL, 1, -1), ("no ripple", FULL, 61, 1),
            ("no ripple", FULL[:2], 1, 1),
        ):
            for paper in PAPERS:
                self.assertIs(accepts(claim, paper), False, (claim, paper))

    def test_no_claims_with_papers_that_would_be_right(self):
        room = ((0, 1, 1, 1, 1, 1), (1, 1, 1, 1, 1, 1))
        better = (0, 1, 1, 0, -1, -1)
        self.assertIs(accepts(("better", room, 2, 1, (0, 1, 0, -1, 0, 0)), better), True)
        self.assertIs(accepts(("better", room, 2, 1, (1, -1, 0, 0, 0, 0)), better), False)
        joining = ((0, 1), (1, 1), (2, 1), (0, 1), (0, -1))
        self.assertIs(accepts(("joins", FULL[:1] * 5, 3, 1, (1, 0)), joining), True)
        self.assertIs(accepts(("joins", FULL[:1] * 5, 5, 1, (1, 0)), ((0, 1), (1, 1), (2, 1), (3, 1), (4, 1))), False)
        self.assertIs(accepts(("joins", FULL[:1] * 6, 4, 1, (1, 0)), ((3, 1), *joining)), False)
        self.assertIs(accepts(("shares", FULL[:1] * 8, 8, (6,)), tuple(range(8))), True)
        self.assertIs(accepts(("shares", FULL[:1] * 9, 8, (6,)), (0, *range(8))), False)
        self.assertIs(accepts(("two waves", SHORT * 2, 2), (1, 4)), False)
        self.assertIs(accepts(("pull", SHORT * 2), 0), False)
        self.assertIs(accepts(("full", 6, 3, 61, 1, (3, 1)), (tuple(tuple(61 * n for n in phase) for phase in FULL), (2, 1))), False)
        self.assertIs(accepts(("full", 6, 3, 60, 1, (3, 1)), (tuple(tuple(60 * n for n in phase) for phase in FULL), (2, 1))), True)

    def test_great_numbers(self):
        great = (BIG, -BIG, 0)
        self.assertIs(accepts(("there", great, 3 * BIG + 1), ()), True)
        self.assertIs(accepts(("gone", great, 3 * BIG), ()), True)
        self.assertIs(accepts(("sizes", great, 1, (BIG - 1, 1 - BIG, 0), -1, 1), ()), True)
        self.assertIs(accepts(("ends", great, BIG), (((0, 0, 1, BIG),), 0)), True)
        self.assertIs(accepts(("ripple", FULL, 1, 3 * BIG), ()), True)
        self.assertIs(accepts(("repeat", FULL, 1 + 6 * BIG, -1), ()), True)
        self.assertIs(accepts(("alike waves", ((0, 0),) * 3, BIG, BIG - 1), ()), True)
        self.assertIs(accepts(("two waves", FULL, BIG), (1, 7)), True)
        self.assertIs(accepts(("leak above", FULL, 1 + 6 * BIG, (BIG, 1)), ()), True)

    def test_arguments(self):
        self.assertEqual(list(inspect.signature(accepts).parameters), ["claim", "paper"])


if __name__ == "__main__":
    unittest.main()
