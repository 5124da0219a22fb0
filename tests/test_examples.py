"""The examples of the document, line for line."""

import doctest
import unittest

EXAMPLES = """
>>> from slotstars.roots import added, compare_to, conjugate, is_real, led_down, led_up, orders_polynomial, product, sign_of, sum_of
>>> [orders_polynomial(1), orders_polynomial(2), orders_polynomial(6), orders_polynomial(12)]
[(-1, 1), (1, 1), (1, -1, 1), (1, 0, -1, 0, 1)]
>>> [sum_of(4, (1, 2, 3, 4)), product((4, (1, 1)), (4, (1, -1))), conjugate((3, (1, 1))), led_up((3, (0, 1)), 6), led_down((6, (-1, 1)), 3), led_down((4, (0, 1)), 2)]
[(4, (-2, -2)), (4, (2, 0)), (3, (0, -1)), (6, (-1, 1)), (3, (0, 1)), None]
>>> [is_real((12, (0, 2, 0, -1))), sign_of((12, (0, 2, 0, -1))), compare_to((12, (0, 2, 0, -1)), (7, 4)), compare_to((6, (3, 0)), (3, 1)), added((3, (1, 1)), (3, (0, -1)))]
[True, 1, -1, 0, (3, (1, 0))]
>>> from slotstars.rows import conductors_of, differences_of, is_phase, mirrored_row, turned_row, winding_of
>>> from slotstars.harmonics import compare_sizes, is_there, order_of, orders_gone, orders_there, parting_harmonic, same_sizes, size_at, takes_up
>>> from slotstars.lattices import lacking_base, lacks, phase_with, shares_of
>>> long, short = (1, 0, 0, -1, 0, 0), (1, 0, -1, 0, 0, 0)
>>> [winding_of(((0, 0, 3, 1), (1, 2, 5, 1), (2, 4, 1, 1)), 6, 3), turned_row(short, 2), mirrored_row(short), conductors_of((2, -3, 1)), differences_of(long), is_phase((1, 1, -1))]
[((1, 0, 0, -1, 0, 0), (0, 0, 1, 0, 0, -1), (0, -1, 0, 0, 1, 0)), (0, 0, 1, 0, -1, 0), (1, 0, 0, 0, -1, 0), 6, (2, 0, 0, -2, 0, 0), False]
>>> [takes_up(long, 1), takes_up(long, 2), takes_up(short, -1), order_of(6, 4), orders_there(long), orders_gone(long), orders_gone(short), is_there(short, 9)]
[(6, (2, 0)), (6, (0, 0)), (6, (1, 1)), 3, (2, 6), (1, 3), (1, 2), False]
>>> [size_at(short, 1), compare_sizes(long, 1, short, 1), same_sizes(long, turned_row(long, 1)), parting_harmonic(long, short), parting_harmonic(long, long)]
[(6, (3, 0)), 1, True, 1, None]
>>> [lacking_base(6, (1, 2)), lacks(short, (2,)), shares_of(short, (1, 2)), shares_of(long, (2,)), phase_with(6, 1, (2,)), phase_with(6, 3, (2,))]
[((-1, 0, 1, 0, 0, 0), (0, -1, 0, 1, 0, 0), (0, 0, -1, 0, 1, 0), (0, 0, 0, -1, 0, 1)), True, (-1, 0, 0, 0), None, (-1, 0, 1, 0, 0, 0), None]
>>> from slotstars.balance import balanced_winding, can_balance, is_balanced, rate_at, unbalancing_harmonic
>>> from slotstars.copies import copied_winding, count_full, full_steps, full_winding, has_full, is_full, rate_of_step, steps_of
>>> six = ((1, 0, 0, -1, 0, 0), (0, 0, 1, 0, 0, -1), (0, -1, 0, 0, 1, 0))
>>> nine = ((2, 0, 1, 0, -2, -1, 1, -1, 0), (0, 1, -1, 1, 2, 0, -1, 0, -2), (-2, -1, 0, -1, 0, 1, 0, 1, 2))
>>> [rate_at(six, 1), rate_at(six, 2), rate_at(six, 3), rate_at(six, -1), is_balanced(six, 7, (3, 1)), unbalancing_harmonic(six)]
[(3, 1), None, (1, 0), (3, 2), True, None]
>>> [rate_at(nine, 1), rate_at(nine, 3), unbalancing_harmonic(nine), steps_of(nine), steps_of(six), unbalancing_harmonic(six[:2] + ((0, 1, 0, 0, -1, 0),))]
[(3, 1), (3, 1), None, (), ((2, 1), (5, -1)), 1]
>>> [can_balance(9, 3, 1, (6, 1)), can_balance(9, 3, 1, (4, 1)), can_balance(6, 3, 2, (3, 1)), can_balance(6, 3, 6, (1, 0)), can_balance(6, 1, 1, (3, 1)), balanced_winding(9, 3, 1, (3, 1), (9,)), is_balanced(balanced_winding(9, 3, 1, (6, 5)), 1, (6, 5))]
[True, False, True, False, False, None, True]
>>> [rate_of_step(9, 1, (3, 1)), rate_of_step(9, 1, (1, 1)), rate_of_step(6, 1, (5, -1)), copied_winding(six[0], 3, (2, 1)) == six, copied_winding(six[0], 3, (1, 1)), copied_winding(six[0], 3, (1, -1))]
[(3, 1), None, (3, 1), True, None, ((1, 0, 0, -1, 0, 0), (0, -1, 0, 0, 1, 0), (0, 0, 1, 0, 0, -1))]
>>> [has_full(9, 3, 1, (3, 1)), has_full(9, 3, 2, (3, 1)), full_steps(6, 3, 1, 1, (3, 1)), full_steps(9, 3, 1, 1, (3, 1)), full_steps(9, 3, 2, 1, (3, 1)), count_full(6, 3, (2, 1)), count_full(6, 3, (5, -1)), is_full(full_winding(9, 3, 2, 1, (3, 1)), 2)]
[False, True, ((2, 1), (5, -1)), (), ((3, 1),), 18, 6, True]
>>> from slotstars.alike import alike_turns, are_alike, are_alike_at, parting_currents, unlike_harmonic
>>> more = ((2, -1, 0, -1, 0, 0), (1, -1, 1, 0, 0, -1), (1, -2, 0, 0, 1, 0))
>>> [are_alike(six, more, "any"), are_alike(six, more, "closed"), are_alike(six, more, ("even", (3, 1))), are_alike(six, more, ("even", (2, 1))), unlike_harmonic(six, more, "any"), are_alike_at(six, more, "any", 6), parting_currents(six, more, "closed")]
[False, True, True, False, 1, True, None]
>>> [alike_turns(six, six[1:] + six[:1], "any"), alike_turns(six, six[1:] + six[:1], ("even", (3, 1))), alike_turns(six[:1], six[:1], "closed")]
[(4,), (4,), (0, 1, 2, 3, 4, 5)]
>>> from slotstars.ways import folded, folded_against, is_quiet, loud_orders, most_ways, orders_for, shared_ways, sharings
>>> from slotstars.rows import turned_row
>>> near = (1, 0, 0, -1, 0, 0, 0, 0, 0, 0, 0, 0)
>>> groups = (near, turned_row(near, 6), turned_row(near, 1), turned_row(near, 7))
>>> [orders_for(12, 0, 2), orders_for(12, 2, 4), orders_for(12, 1, 6), orders_for(12, 3, 0), loud_orders(groups[:2]), is_quiet(groups[:2], (1, 2, 3, 6)), folded(groups[1], 6), folded_against(groups[1], 3)]
[(1, 2, 3, 6), (2, 6), (12,), (4,), (4, 12), True, (1, 0, 0, -1, 0, 0), (2, 0, 0)]
>>> [sharings(groups, 2, (1, 2, 3, 6)), sharings(groups, 2, (4, 12)), sharings(groups, 2, (2, 4)), most_ways(groups, (1, 2, 3, 6)), most_ways(groups, ()), shared_ways(groups, (0, 0, 1, 1))[0]]
[((0, 1, 0, 1), (0, 1, 1, 0)), ((0, 0, 1, 1),), (), 2, 4, (1, 0, 0, -1, 0, 0, 1, 0, 0, -1, 0, 0)]
>>> from slotstars.poles import joined, joinings_for, nearest_joining, orders_joined
>>> [joinings_for(groups[:2], 1, 2, (1, 0)), joinings_for(groups[:2], 1, 1, (1, 0)), joined(six, 2, ((0, 1), (1, -1), (0, 1)))]
[(((0, 1), (0, 1)),), (((0, 1), (0, -1)),), ((1, -1, 0, -1, 1, 0), (0, 0, -1, 0, 0, 1))]
>>> [joinings_for(six, 3, 1, (3, 2)), nearest_joining(six, 3, ((0, 1), (1, 1), (2, 1)), 3, (2, 1)), [orders_joined(six, 3, k) for k in range(1, 7)]]
[(((0, 1), (2, 1), (1, 1)), ((1, 1), (0, 1), (2, 1)), ((2, 1), (1, 1), (0, 1))), ((0, 1), (1, -1), (2, 1)), [(2,), (2,), (6,), (), (), (6,)]]
>>> from slotstars.wrongs import blind_pairs, wrong_winding, wrongs_of
>>> from slotstars.readings import fewest_tests, left_by, never_parted, parts, reading_of
>>> coils = ((0, 0, 3, 1), (1, 2, 5, 1), (2, 4, 1, 1))
>>> [wrongs_of(coils)[5:], wrong_winding(coils, 6, 3, ("out", 0))[0], wrong_winding(coils, 6, 3, ("swapped", 0, 1)) == (six[1], six[0], six[2]), blind_pairs(coils, 6, 3)]
[(('out', 1), ('out', 2), ('swapped', 0, 1), ('swapped', 0, 2), ('swapped', 1, 2)), (0, 0, 0, 0, 0, 0), True, ((0, 7), (0, 8), (0, 9), (7, 8), (7, 9), (8, 9))]
>>> [reading_of(six, ((1, 1, 0), 1)), reading_of(six, ((1, -1, 0), 1)), never_parted(six, (six[1], six[0], six[2])), parts(six, wrong_winding(coils, 6, 3, ("turned", 0)), ((1, 1, 0), 1))]
[(6, (4, 0)), (6, (12, 0)), True, True]
>>> [left_by(coils, 6, 3, ((((1, 1, 0), 1), ("from", (5, 1))),)), left_by(coils, 6, 3, ((((1, 0, 0), 1), ("dark",)),)), fewest_tests(coils, 6, 3, (((1, 1, 0), 1), ((1, 0, 1), 1), ((0, 1, 1), 1), ((1, 0, 0), 1)))]
[(('turned', 0), ('turned', 1)), (('out', 0),), (0, 1, 3)]
>>> from slotstars.stars import better_choice, gathered, greatest_size, is_choice, narrow_belts, star, strongest, wide_belts
>>> [star(6, 2), star(6, 4), star(6, 0)]
[((0, 3), (1, 4), (2, 5)), ((0, 3), (2, 5), (1, 4)), ((0, 1, 2, 3, 4, 5),)]
>>> room, even = ((2, 0, 1, 0), (0, 1, 0, 2)), ((1, 1, 1, 1, 1, 1), (1, 1, 1, 1, 1, 1))
>>> [gathered(room, 2, 1, 0), gathered(room, 2, 1, 2), strongest(room, 2, 1), greatest_size(room, 2, 1), better_choice(room, 2, 1, (1, 0, 1, -2)), better_choice(room, 2, 1, (2, 0, 0, -2)), is_choice(room, 2, (2, -2, 0, 0))]
[(2, 0, 0, -2), (1, 0, 1, -2), (0, (2, 0, 0, -2)), (4, (8, 0)), (2, 0, 0, -2), None, False]
>>> [strongest(even, 2, 1), greatest_size(even, 3, 1), greatest_size(even, 4, 5)]
[(0, (1, 1, 0, -1, -1, 0)), (6, (16, 0)), (6, (12, 0))]
>>> [narrow_belts(6, 1, 3), wide_belts(6, 2, 3), narrow_belts(9, 1, 3)[0]]
[((1, 0, 0, -1, 0, 0), (0, 0, 1, 0, 0, -1), (0, -1, 0, 0, 1, 0)), ((1, 0, 0, 1, 0, 0), (0, 1, 0, 0, 1, 0), (0, 0, 1, 0, 0, 1)), (1, 1, 0, 0, 0, -1, 0, 0, 0)]
>>> from slotstars.spans import best_spans, is_fewest, lap, span_kills, span_phase, spans_without, starts_of
>>> from slotstars.chains import chain_for, chain_kills, chain_row
>>> from slotstars.ends import are_shortest, distance, ends_of, flow, least_ends, levels, short_coils
>>> [span_phase((1, 0, 0, 0, 0, 0), 2), lap(((1, 0, 0, 1, 0, 0), (0, 1, 0, 0, 1, 0)), 1), span_kills(6, 4), spans_without(12, (2, 3)), spans_without(12, (3, 4)), best_spans(12, 1, (4,)), best_spans(12, 2, (2,))]
[(1, 0, -1, 0, 0, 0), ((1, -1, 0, 1, -1, 0), (0, 1, -1, 0, 1, -1)), (1, 2), (6,), (), (4, 8), (2, 4, 8, 10)]
>>> [starts_of((1, 0, -1, 0, 0, 0), 2), starts_of((1, 0, 0, -1, 0, 0), 2), starts_of((1, 0, 0, -1, 0, 0), 1), is_fewest((2, 0, 1, 0, 0, 0), 2)]
[(1, 0, 0, 0, 0, 0), None, (1, 1, 1, 0, 0, 0), False]
>>> [chain_row(6, (("span", 2), ("belt", 2, 3))), chain_kills(6, (("span", 2), ("belt", 2, 3))), chain_for(6, 1, (2,)), chain_for(6, 3, (6,)), chain_for(6, 1, (6,))]
[(1, 0, -1, 1, 0, -1), (1, 2, 6), (('span', 1), ('span', 2)), (('span', 1), ('belt', 3, 2)), None]
>>> [distance(6, 1, 5), flow((2, -1, 0, 0, -1, 0)), levels((1, 0, 0, -1, 0, 0)), least_ends((2, -1, 0, 0, -1, 0)), ends_of(short_coils((1, 0, 0, 0, -1, 0)), 6), ends_of(((0, 0, 3, 1), (1, 4, 5, -2)), 6), are_shortest(((0, 0, 3, 1), (0, 1, 4, -1)), 6)]
[2, (0, 2, 1, 1, 1, 0), (0, 1), 3, 2, 5, False]
>>> from slotstars.points import mirrored_point, norm_of, point_product, turned_point
>>> from slotstars.polygons import corners, is_flat, mean_square, peak, peak_teeth, polygon, pulse, slot_points, sweep
>>> from slotstars.waves import compare_waves, is_leak_below, strongest_waves, wave, waves
>>> from slotstars.symmetries import class_of_waves, is_repeat, least_repeat, mirrors
>>> from slotstars.moments import currents_at, field_at, square_at
>>> [point_product((1, 2), (3, -1)), turned_point((2, 1), 1), mirrored_point((2, 1)), norm_of((2, -1))]
[(5, 7), (1, 2), (1, -1), 7]
>>> full = ((1, 0, 0, -1, 0, 0), (0, 0, 1, 0, 0, -1), (0, -1, 0, 0, 1, 0))
>>> short, lone = ((1, 0, -1, 0, 0, 0), (0, 0, 1, 0, -1, 0), (-1, 0, 0, 0, 1, 0)), ((1, -1, 0, 0), (0, 0, 0, 0), (0, 0, 0, 0))
>>> [slot_points(short), corners(short), polygon(short), is_flat(short)]
[((1, -1), (0, 0), (-2, -1), (0, 0), (1, 2), (0, 0)), ((0, 0), (1, -1), (1, -1), (-1, -2), (-1, -2), (0, 0)), ((0, 6), (6, 0), (6, 0), (-6, -6), (-6, -6), (0, 6)), False]
>>> [mean_square(short), mean_square(lone), peak(lone), peak_teeth(lone), pulse(lone), pulse(short), sweep(full), sweep(short), sweep(lone)]
[(1, 1), (3, 16), (9, 16), (1,), (12, 0), (0, 0), 216, 108, 0]
>>> [wave(short, 1), wave(lone, 1), waves(full), waves(short), waves(lone), strongest_waves(short), strongest_waves(lone), compare_waves(short, 1, -2)]
[(6, (6, -3)), (12, (1, 0, 0, -1)), (1,), (1, 4), (1, 2, 3), (1,), (-1, 1), 1]
>>> [is_leak_below(short, 1, (1, 2)), is_leak_below(short, 1, (2, 5)), is_leak_below(full, 1, (1, 10)), is_leak_below(full, -5, (26, 1))]
[True, False, True, False]
>>> [least_repeat(full), least_repeat(short), least_repeat(lone), class_of_waves(full), class_of_waves(short), class_of_waves(lone), is_repeat(short, -2, 2), mirrors(short), mirrors(lone)]
[(1, 5), (2, 4), (4, 0), (6, 1), (3, 1), (1, 0), True, ((0, 5), (2, 3), (4, 1)), ((1, 3),)]
>>> [currents_at(0), currents_at(3), field_at(short, 0), field_at(short, 1), square_at(short, 0), square_at(short, 1)]
[(2, -1, -1), (0, 1, -1), (-6, 12, 12, -6, -6, -6), (-6, 6, 6, 0, 0, -6), 432, 144]
>>> from slotstars.forces import beaten_into, beating_classes, has_beating, has_standing, is_pulled_at, least_lobes, pulls, standing_orders
>>> from slotstars.rotors import is_ripple, least_ripple, mixed_lobes, mixed_pulls, ripples
>>> [standing_orders(short), standing_orders(lone), beating_classes(short), beating_classes(full), beaten_into(short), least_lobes(short), least_lobes(full), pulls(short), pulls(full)]
[(1,), (1, 2, 4), (2, 5), (2,), ((0, 3), (2, 5)), 1, 2, (False, True), (False, False)]
>>> [has_beating(short, -1), has_beating(short, 1), has_standing(lone, 0), has_standing(lone, 4), is_pulled_at(short, 0), is_pulled_at(lone, 0), is_pulled_at(lone, 3), is_pulled_at(full, 2)]
[True, False, True, False, True, True, False, False]
>>> [mixed_lobes(full, 1), mixed_lobes(short, 1), mixed_pulls(short, 1), ripples(full, 1), least_ripple(full, 1), is_ripple(full, 1, 1), is_ripple(lone, 1, 1)]
[(2, (0,)), (2, (0, 1)), True, (3, (0,)), 3, False, True]
"""


class ExamplesTest(unittest.TestCase):
    def test_examples(self):
        told = doctest.DocTestParser().get_doctest(EXAMPLES, {}, "examples", None, 0)
        runner = doctest.DocTestRunner(verbose=False)
        runner.run(told)
        self.assertEqual(runner.failures, 0)
        self.assertEqual(runner.tries, 72)


if __name__ == "__main__":
    unittest.main()
