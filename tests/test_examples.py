"""The examples of the document for the modules that there are, line for line."""

import doctest
import unittest

EXAMPLES = """
>>> from slotstars.roots import added, compare_to, conjugate, is_real, led_down, led_up, orders_polynomial, product, sign_of, sum_of
>>> [orders_polynomial(1), orders_polynomial(2), orders_polynomial(6), orders_polynomial(12)]
[(-1, 1), (1, 1), (1, -1, 1), (1, 0, -1, 0, 1)]
>>> [sum_of(4, (1, 2, 3, 4)), product((4, (1, 1)), (4, (1, -1))), conjugate((3, (1, 1))), led_up((3, (0, 1)), 6), led_down((6, (-1, 1)), 3), led_down((4, (0, 1)), 2)]
[(4, (-2, -2)), (4, (2, 0)), (3, (0, -1)), (6, (-1, 1)), (3, (0, 1)), None]
>>> [is_real((12, (0, 2, 0, -1))), sign_of((12, (0, 2, 0, -1))), compare_to((12, (0, 2, 0, -1)), (7, 4)), compare_to((6, (3, 0)), (3, 1)), added((3, (1, 1)), (3, (0, -1)))]
[True, 1, -1, 0, (3, (1, 0))]
>>> from slotstars.rows import conductors_of, differences_of, is_phase, mirrored_row, turned_row, winding_of
>>> from slotstars.harmonics import compare_sizes, is_there, order_of, orders_gone, orders_there, parting_harmonic, same_sizes, size_at, takes_up
>>> from slotstars.lattices import lacking_base, lacks, phase_with, shares_of
>>> long, short = (1, 0, 0, -1, 0, 0), (1, 0, -1, 0, 0, 0)
>>> [winding_of(((0, 0, 3, 1), (1, 2, 5, 1), (2, 4, 1, 1)), 6, 3), turned_row(short, 2), mirrored_row(short), conductors_of((2, -3, 1)), differences_of(long), is_phase((1, 1, -1))]
[((1, 0, 0, -1, 0, 0), (0, 0, 1, 0, 0, -1), (0, -1, 0, 0, 1, 0)), (0, 0, 1, 0, -1, 0), (1, 0, 0, 0, -1, 0), 6, (2, 0, 0, -2, 0, 0), False]
>>> [takes_up(long, 1), takes_up(long, 2), takes_up(short, -1), order_of(6, 4), orders_there(long), orders_gone(long), orders_gone(short), is_there(short, 9)]
[(6, (2, 0)), (6, (0, 0)), (6, (1, 1)), 3, (2, 6), (1, 3), (1, 2), False]
>>> [size_at(short, 1), compare_sizes(long, 1, short, 1), same_sizes(long, turned_row(long, 1)), parting_harmonic(long, short), parting_harmonic(long, long)]
[(6, (3, 0)), 1, True, 1, None]
>>> [lacking_base(6, (1, 2)), lacks(short, (2,)), shares_of(short, (1, 2)), shares_of(long, (2,)), phase_with(6, 1, (2,)), phase_with(6, 3, (2,))]
[((-1, 0, 1, 0, 0, 0), (0, -1, 0, 1, 0, 0), (0, 0, -1, 0, 1, 0), (0, 0, 0, -1, 0, 1)), True, (-1, 0, 0, 0), None, (-1, 0, 1, 0, 0, 0), None]
>>> from slotstars.balance import balanced_winding, can_balance, is_balanced, rate_at, unbalancing_harmonic
>>> from slotstars.copies import copied_winding, count_full, full_steps, full_winding, has_full, is_full, rate_of_step, steps_of
>>> six = ((1, 0, 0, -1, 0, 0), (0, 0, 1, 0, 0, -1), (0, -1, 0, 0, 1, 0))
>>> nine = ((2, 0, 1, 0, -2, -1, 1, -1, 0), (0, 1, -1, 1, 2, 0, -1, 0, -2), (-2, -1, 0, -1, 0, 1, 0, 1, 2))
>>> [rate_at(six, 1), rate_at(six, 2), rate_at(six, 3), rate_at(six, -1), is_balanced(six, 7, (3, 1)), unbalancing_harmonic(six)]
[(3, 1), None, (1, 0), (3, 2), True, None]
>>> [rate_at(nine, 1), rate_at(nine, 3), unbalancing_harmonic(nine), steps_of(nine), steps_of(six), unbalancing_harmonic(six[:2] + ((0, 1, 0, 0, -1, 0),))]
[(3, 1), (3, 1), None, (), ((2, 1), (5, -1)), 1]
>>> [can_balance(9, 3, 1, (6, 1)), can_balance(9, 3, 1, (4, 1)), can_balance(6, 3, 2, (3, 1)), can_balance(6, 3, 6, (1, 0)), can_balance(6, 1, 1, (3, 1)), balanced_winding(9, 3, 1, (3, 1), (9,)), is_balanced(balanced_winding(9, 3, 1, (6, 5)), 1, (6, 5))]
[True, False, True, False, False, None, True]
>>> [rate_of_step(9, 1, (3, 1)), rate_of_step(9, 1, (1, 1)), rate_of_step(6, 1, (5, -1)), copied_winding(six[0], 3, (2, 1)) == six, copied_winding(six[0], 3, (1, 1)), copied_winding(six[0], 3, (1, -1))]
[(3, 1), None, (3, 1), True, None, ((1, 0, 0, -1, 0, 0), (0, -1, 0, 0, 1, 0), (0, 0, 1, 0, 0, -1))]
>>> [has_full(9, 3, 1, (3, 1)), has_full(9, 3, 2, (3, 1)), full_steps(6, 3, 1, 1, (3, 1)), full_steps(9, 3, 1, 1, (3, 1)), full_steps(9, 3, 2, 1, (3, 1)), count_full(6, 3, (2, 1)), count_full(6, 3, (5, -1)), is_full(full_winding(9, 3, 2, 1, (3, 1)), 2)]
[False, True, ((2, 1), (5, -1)), (), ((3, 1),), 18, 6, True]
>>> from slotstars.alike import alike_turns, are_alike, are_alike_at, parting_currents, unlike_harmonic
>>> more = ((2, -1, 0, -1, 0, 0), (1, -1, 1, 0, 0, -1), (1, -2, 0, 0, 1, 0))
>>> [are_alike(six, more, "any"), are_alike(six, more, "closed"), are_alike(six, more, ("even", (3, 1))), are_alike(six, more, ("even", (2, 1))), unlike_harmonic(six, more, "any"), are_alike_at(six, more, "any", 6), parting_currents(six, more, "closed")]
[False, True, True, False, 1, True, None]
>>> [alike_turns(six, six[1:] + six[:1], "any"), alike_turns(six, six[1:] + six[:1], ("even", (3, 1))), alike_turns(six[:1], six[:1], "closed")]
[(4,), (4,), (0, 1, 2, 3, 4, 5)]
>>> from slotstars.ways import folded, folded_against, is_quiet, loud_orders, most_ways, orders_for, shared_ways, sharings
>>> from slotstars.rows import turned_row
>>> near = (1, 0, 0, -1, 0, 0, 0, 0, 0, 0, 0, 0)
>>> groups = (near, turned_row(near, 6), turned_row(near, 1), turned_row(near, 7))
>>> [orders_for(12, 0, 2), orders_for(12, 2, 4), orders_for(12, 1, 6), orders_for(12, 3, 0), loud_orders(groups[:2]), is_quiet(groups[:2], (1, 2, 3, 6)), folded(groups[1], 6), folded_against(groups[1], 3)]
[(1, 2, 3, 6), (2, 6), (12,), (4,), (4, 12), True, (1, 0, 0, -1, 0, 0), (2, 0, 0)]
>>> [sharings(groups, 2, (1, 2, 3, 6)), sharings(groups, 2, (4, 12)), sharings(groups, 2, (2, 4)), most_ways(groups, (1, 2, 3, 6)), most_ways(groups, ()), shared_ways(groups, (0, 0, 1, 1))[0]]
[((0, 1, 0, 1), (0, 1, 1, 0)), ((0, 0, 1, 1),), (), 2, 4, (1, 0, 0, -1, 0, 0, 1, 0, 0, -1, 0, 0)]
"""


class ExamplesTest(unittest.TestCase):
    def test_examples(self):
        told = doctest.DocTestParser().get_doctest(EXAMPLES, {}, "examples", None, 0)
        runner = doctest.DocTestRunner(verbose=False)
        runner.run(told)
        self.assertEqual(runner.failures, 0)
        self.assertEqual(runner.tries, 31)


if __name__ == "__main__":
    unittest.main()
