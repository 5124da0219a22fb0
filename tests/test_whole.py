"""Over the whole program: questions that are told in several ways agree; windings turned, mirrored or with a step."""

import random
import unittest
from math import gcd

from makers import RATES, any_phase, divisors
from slotstars import (
    alike, balance, certificates, chains, copies, forces, harmonics, lattices, polygons, readings, roots, rows, symmetries,
    ways, waves,
)
from slotstars.checker import accepts
from slotstars.consoles import Console
from slotstars.errors import Broken
from slotstars.workshops import Workshop
from some_windings import FULL, SHORT, belted, stepped_winding


def wished(shop, wish):
    """Whether a wish holds."""
    try:
        shop.wish(wish)
    except Broken:
        return False
    shop.undo()
    return True


class SeveralWaysTest(unittest.TestCase):
    def setUp(self):
        self.chance = random.Random(1)

    def some_phases(self):
        for slots in (2, 3, 4, 6, 9, 10, 12, 59, 60):
            yield any_phase(self.chance, slots, 2)
            yield (0,) * slots
            yield rows.turned_row(chains.chain_row(slots, (("span", 1), ("belt", 2, slots - 1))), 1)
            for orders in ((divisors(slots)[-1],), tuple(divisors(slots)[1:-1])):
                base = lattices.lacking_base(slots, (1, *orders))
                yield base[0] if base else (0,) * slots

    def test_whether_a_harmonic_is_there(self):
        for phase in self.some_phases():
            slots = len(phase)
            zero = (0,) * slots
            shop = Workshop()
            shop.put("a", (phase,))
            told_orders = Console(shop).say("orders a").split()
            for h in (0, 1, 2, 3, -1, slots // 2, slots, slots + 1, 6 * slots - 2):
                order = harmonics.order_of(slots, h)
                there = any(harmonics.takes_up(phase, h)[1])
                agree = [
                    harmonics.is_there(phase, h), order in harmonics.orders_there(phase),
                    order not in harmonics.orders_gone(phase), any(harmonics.size_at(phase, h)[1]),
                    harmonics.compare_sizes(phase, h, zero, 0) > 0, not lattices.lacks(phase, (order,)),
                    lattices.shares_of(phase, (order,)) is None, any(readings.reading_of((phase,), ((1,), h))[1]),
                    readings.is_found((phase,), (((-1,), h), ("lit",))), not readings.is_found((phase,), (((1,), h), ("dark",))),
                    balance.rate_at((phase,), h) == (1, 0), balance.is_balanced((phase,), h, (1, 0)),
                    not alike.are_alike_at((phase,), (zero,), "any", h), order in ways.loud_orders((phase, zero)),
                    not ways.is_quiet((zero, phase), (order,)), readings.parts((phase,), (zero,), ((1,), h)),
                    waves.is_wave((phase, zero, zero), h), h % slots in waves.waves((phase, zero, zero)),
                    waves.is_wave((zero, phase, zero), h), waves.is_wave((zero, zero, phase), -h),
                    wished(shop, ("there", "a", 0, h)), not wished(shop, ("gone", "a", 0, h)),
                    wished(shop, ("balanced", "a", h, (1, 0))), not wished(shop, ("lacks", "a", (order,))),
                    str(order) in told_orders, accepts(("there", phase, h), ()), not accepts(("gone", phase, h), ()),
                    accepts(("has", phase, (order,)), order), accepts(("balanced", (phase,), h, (1, 0)), ()),
                    not accepts(("nothing", (phase,), h), ()), accepts(("wave", (phase, zero, zero), h), ()),
                    accepts(("loud", (phase, zero), (order,)), order), accepts(("unlike", (phase,), (zero,), "any"), h),
                    certificates.certify_harmonic(phase, h)[0][0] == "there",
                ]
                self.assertEqual(agree, [there] * len(agree), (phase, h))

    def test_balance(self):
        for winding in (FULL, SHORT, FULL[::-1], FULL[:2], (FULL[0],) * 3, stepped_winding(self.chance, 9)):
            shop = Workshop()
            shop.put("a", winding)
            console = Console(shop)
            for h in range(-3, 8):
                told = balance.rate_at(winding, h)
                self.assertEqual(console.say(f"rate a: {h}"), "none" if told is None else "{} {}".format(*told))
                for rate in RATES:
                    agree = [balance.is_balanced(winding, h, rate), wished(shop, ("balanced", "a", h, rate)),
                             accepts(("balanced", winding, h, rate), ())]
                    self.assertEqual(agree, [told == rate] * 3)
                unbalanced = accepts(("unbalanced", winding, h), ())
                self.assertEqual(unbalanced, told is None and any(harmonics.is_there(phase, h) for phase in winding))
            worst = balance.unbalancing_harmonic(winding)
            self.assertEqual(console.say("unbalanced a"), "none" if worst is None else str(worst))
            self.assertEqual(accepts(("always balanced", winding), ()), worst is None)
            for step in copies.all_steps(len(winding[0])):
                agree = [step in copies.steps_of(winding), wished(shop, ("step", "a", step)),
                         accepts(("has step", winding, step), ()), not accepts(("no step", winding, step), ()),
                         f"{step[0]} {step[1]}" in console.say("steps a").split("; ")]
                self.assertEqual(len(set(agree)), 1)

    def test_likeness(self):
        for other in (FULL, SHORT, FULL[::-1], tuple(rows.added_rows(phase, SHORT[0]) for phase in FULL)):
            shop = Workshop()
            shop.put("a", FULL)
            shop.put("b", other)
            for kind in ("any", "closed", ("even", (3, 1)), ("even", (6, 5))):
                told = alike.are_alike(FULL, other, kind)
                agree = [alike.unlike_harmonic(FULL, other, kind) is None, 0 in alike.alike_turns(FULL, other, kind),
                         wished(shop, ("alike", "a", "b", kind)), accepts(("alike", FULL, other, kind), ()),
                         all(alike.are_alike_at(FULL, other, kind, h) for h in range(1, 6))]
                self.assertEqual(agree, [told] * 5)


class TurnedAndMirroredTest(unittest.TestCase):
    def setUp(self):
        chance = random.Random(2)
        self.some = [FULL, SHORT, belted(12, 5)] + [tuple(any_phase(chance, slots, 2) for _ in range(3))
                                                    for slots in (2, 5, 8, 9, 12, 59, 60)]
        self.some = [winding for winding in self.some if not polygons.is_flat(winding)]

    def test_turned(self):
        for winding in self.some:
            slots = len(winding[0])
            for turn in (1, slots - 2, -7):
                turned = tuple(rows.turned_row(phase, turn) for phase in winding)
                for phase, other in zip(winding, turned):
                    self.assertTrue(harmonics.same_sizes(phase, other))
                    self.assertEqual(harmonics.orders_there(phase), harmonics.orders_there(other))
                    for h in (1, 2, -1):
                        wanted = roots.times_root(harmonics.takes_up(phase, h), h * turn)
                        self.assertEqual(harmonics.takes_up(other, h), wanted)
                for h in (1, 2, 3):
                    self.assertEqual(balance.rate_at(turned, h), balance.rate_at(winding, h))
                self.assertIn(turn % slots, alike.alike_turns(turned, winding, "any"))
                self.assertTrue(readings.never_parted(winding, turned))
                self.assertEqual(copies.steps_of(turned), copies.steps_of(winding))
                for tell in (waves.waves, waves.strongest_waves, polygons.mean_square, polygons.peak, polygons.pulse,
                             polygons.sweep, symmetries.least_repeat, symmetries.class_of_waves, forces.standing_orders,
                             forces.beating_classes, forces.beaten_into, forces.least_lobes, forces.pulls):
                    self.assertEqual(tell(turned), tell(winding), tell.__name__)
                self.assertEqual(len(symmetries.mirrors(turned)), len(symmetries.mirrors(winding)))
                self.assertEqual([forces.is_pulled_at(turned, moment) for moment in range(6)],
                                 [forces.is_pulled_at(winding, moment) for moment in range(6)])

    def test_mirrored(self):
        for winding in self.some:
            slots = len(winding[0])
            mirrored = tuple(rows.mirrored_row(phase) for phase in winding)
            for phase, other in zip(winding, mirrored):
                self.assertTrue(harmonics.same_sizes(phase, other))
                for h in (1, 2, -1):
                    self.assertEqual(harmonics.takes_up(other, h), harmonics.takes_up(phase, -h))
                    self.assertEqual(harmonics.takes_up(other, h), roots.conjugate(harmonics.takes_up(phase, h)))
            self.assertTrue(readings.never_parted(winding, mirrored))
            self.assertEqual(copies.steps_of(mirrored), tuple(sorted((-s % slots, e) for s, e in copies.steps_of(winding))))
            self.assertEqual(waves.waves(mirrored), tuple(sorted(-h % slots for h in waves.waves(winding))))
            self.assertEqual(waves.strongest_waves(mirrored), tuple(-h for h in waves.strongest_waves(winding)[::-1]))
            for tell in (polygons.mean_square, polygons.peak, polygons.pulse, forces.standing_orders, forces.least_lobes,
                         forces.pulls):
                self.assertEqual(tell(mirrored), tell(winding), tell.__name__)
            self.assertEqual(polygons.sweep(mirrored), -polygons.sweep(winding))
            turn, sixths = symmetries.least_repeat(winding)
            self.assertEqual(symmetries.least_repeat(mirrored), (turn, -sixths % 6))
            self.assertEqual(symmetries.mirrors(mirrored),
                             tuple(sorted((-s % slots, j) for s, j in symmetries.mirrors(winding))))


class StepsTest(unittest.TestCase):
    def test_windings_with_a_step(self):
        chance = random.Random(16)
        seen = 0
        for slots in (3, 6, 9, 12, 18, 60):
            for step in copies.all_steps(slots):
                pairs = [copies.copied_winding(any_phase(chance, slots, 2), 3, step)]
                pairs.append(copies.full_winding(slots, 3, 2, 1, (3, 1)))
                for winding in pairs:
                    if winding is not None and step in copies.steps_of(winding):
                        self.look_at(winding, step)
                        seen += 1
        self.assertGreater(seen, 20)

    def look_at(self, winding, step):
        slots = len(winding[0])
        turn, sign = step
        self.assertIsNone(balance.unbalancing_harmonic(winding))
        for h in range(slots):
            rate = copies.rate_of_step(slots, h, step)
            there = harmonics.is_there(winding[0], h)
            self.assertEqual(balance.rate_at(winding, h), rate if there else None)
            # The sum of the phases, turned back by thirds, is three times the first one, or nothing.
            self.assertEqual(waves.is_wave(winding, h), there and rate == (3, 1))
        sixths = 4 if sign == 1 else 1
        self.assertTrue(symmetries.is_repeat(winding, turn, sixths))
        self.assertTrue(accepts(("repeat", winding, turn, sixths), ()))
        if polygons.is_flat(winding):
            return
        self.assertEqual(turn % symmetries.least_repeat(winding)[0], 0)
        # The polygon comes again, turned by so many sixths: the norms stay, the squares turn twice as far.
        for order in forces.standing_orders(winding):
            self.assertEqual(gcd(turn, slots) % order, 0)
        for lobes in forces.beating_classes(winding):
            self.assertEqual((6 * lobes * turn + 2 * sixths * slots) % (6 * slots), 0)
        self.assertEqual(polygons.pulse(winding), (0, 0))


if __name__ == "__main__":
    unittest.main()
