"""Wishes of workshops: their forms, the names in them, and whether they hold."""

from slotstars.alike import are_alike, is_currents
from slotstars.balance import is_balanced, is_rate
from slotstars.copies import MOST_CONDUCTORS, has_step, is_full, is_step
from slotstars.harmonics import has_order, is_there
from slotstars.rows import MOST_PHASES, MOST_SLOTS
from slotstars.wholes import are_wholes, is_whole, is_within

LONGEST_NAME = 12


def is_name(value):
    """Whether it is a name of a winding, whatever it is."""
    if not (isinstance(value, str) and 1 <= len(value) <= LONGEST_NAME):
        return False
    return all("a" <= letter <= "z" for letter in value)


def _is_phase_and_harmonic(told):
    return len(told) == 2 and is_within(told[0], 0, MOST_PHASES - 1) and is_whole(told[1])


def _is_harmonic_and_rate(told):
    return len(told) == 2 and is_whole(told[0]) and is_rate(told[1])


def _is_any_step(told):
    return len(told) == 1 and is_step(told[0], MOST_SLOTS)


def _is_number_of_conductors(told):
    return len(told) == 1 and is_within(told[0], 1, MOST_CONDUCTORS)


def _are_any_orders(told):
    if len(told) != 1 or not are_wholes(told[0]):
        return False
    orders = told[0]
    return len(set(orders)) == len(orders) and all(1 <= order <= MOST_SLOTS for order in orders)


def _is_other_and_currents(told):
    return len(told) == 2 and is_name(told[0]) and is_currents(told[1])


def _has_harmonic(winding, index, harmonic):
    return index < len(winding) and is_there(winding[index], harmonic)


def _has_not_harmonic(winding, index, harmonic):
    return index < len(winding) and not is_there(winding[index], harmonic)


def _has_rate(winding, harmonic, rate):
    return is_balanced(winding, harmonic, rate)


def _has_conductors(winding, conductors):
    return is_full(winding, conductors)


def _has_the_step(winding, step):
    return step[0] < len(winding[0]) and has_step(winding, step)


def _lacks_all(winding, orders):
    slots = len(winding[0])
    return not any(has_order(phase, order) for order in orders if slots % order == 0 for phase in winding)


def _are_like(winding, other, currents):
    same_shape = len(winding) == len(other) and len(winding[0]) == len(other[0])
    return same_shape and are_alike(winding, other, currents)


# For each word: the form of what follows the word and the name, and whether it is so of the winding of this name.
WISHES = {
    "there": (_is_phase_and_harmonic, _has_harmonic),
    "gone": (_is_phase_and_harmonic, _has_not_harmonic),
    "balanced": (_is_harmonic_and_rate, _has_rate),
    "step": (_is_any_step, _has_the_step),
    "full": (_is_number_of_conductors, _has_conductors),
    "lacks": (_are_any_orders, _lacks_all),
    "alike": (_is_other_and_currents, _are_like),
}


def is_wish(value):
    """Whether it is a wish, whatever it is, and whether its names are there or not."""
    if not (isinstance(value, tuple) and len(value) >= 2 and isinstance(value[0], str) and value[0] in WISHES):
        return False
    word, name, *told = value
    has_form, _ = WISHES[word]
    return is_name(name) and has_form(told)


def names_in(wish):
    """The names in the wish."""
    return wish[1:3] if wish[0] == "alike" else wish[1:2]


def holds(wish, windings):
    """Whether the wish holds with these windings, a dict of names."""
    word, name, *told = wish
    _, is_so = WISHES[word]
    if word == "alike":
        told[0] = windings[told[0]]
    return is_so(windings[name], *told)
