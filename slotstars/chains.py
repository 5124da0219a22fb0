"""Chains of spans and belts: the rows that they make, and what harmonics they kill."""

from slotstars.errors import InvalidChain
from slotstars.harmonics import order_of, orders_gone
from slotstars.lattices import check_orders
from slotstars.rows import check_slots
from slotstars.wholes import check_number, is_within

MOST_FACTORS = 12
LEAST_BELT = 2
MOST_BELT = 60


def is_factor(value, slots):
    """Whether it is a factor for so many slots, whatever it is."""
    if not (isinstance(value, tuple) and len(value) in (2, 3) and isinstance(value[0], str)):
        return False
    if not is_within(value[-1], 1, slots - 1):
        return False
    if len(value) == 2:
        return value[0] == "span"
    return value[0] == "belt" and is_within(value[1], LEAST_BELT, MOST_BELT)


def check_chain(chain, slots):
    """Raises InvalidChain for what is no chain for so many slots."""
    if not isinstance(chain, tuple):
        raise InvalidChain(None)
    for index, factor in enumerate(chain):
        if index == MOST_FACTORS or not is_factor(factor, slots):
            raise InvalidChain(index)


def chain_row(slots, chain):
    """The row that the factors make, one after another, of a single conductor in the slot 0."""
    check_slots(slots)
    check_chain(chain, slots)
    row = [1] + [0] * (slots - 1)
    for word, *numbers in chain:
        if word == "span":
            row = [number - row[slot - numbers[0]] for slot, number in enumerate(row)]
        else:
            row = _belted(row, numbers[0], numbers[1])
    return tuple(row)


def _belted(row, many, width):
    """The row with the sum of so many of its numbers, each so far behind the one before it, in each slot."""
    slots = len(row)
    return [sum(row[(slot - turn * width) % slots] for turn in range(many)) for slot in range(slots)]


def chain_kills(slots, chain):
    """The orders that the row of the chain does not have."""
    return orders_gone(chain_row(slots, chain))


def chain_for(slots, harmonic, orders):
    """The chain of a phase with the harmonic and with none of these orders; None if there is no such phase."""
    check_slots(slots)
    check_number(harmonic)
    check_orders(orders, slots)
    here = order_of(slots, harmonic)
    if here == 1 or here in orders:
        return None
    gone = sorted(set([1, *orders]))
    return tuple(("span", order) if order % here != 0 else ("belt", order // here, here) for order in gone)
