"""Rows that have no harmonic of told orders: their base, and what they are made of."""

from slotstars.errors import InvalidOrders
from slotstars.harmonics import has_order, order_of
from slotstars.polynomials import divided, product_of_orders
from slotstars.rows import check_row, check_slots
from slotstars.wholes import check_number, is_within


def check_orders(orders, slots):
    """Raises InvalidOrders for what are no unlike divisors of the number of slots."""
    if not isinstance(orders, tuple):
        raise InvalidOrders(None)
    for index, order in enumerate(orders):
        if not is_within(order, 1, slots) or slots % order != 0 or order in orders[:index]:
            raise InvalidOrders(index)


def lacks(row, orders):
    """Whether the row has no harmonic of these orders."""
    check_row(row)
    check_orders(orders, len(row))
    return not any(has_order(row, order) for order in orders)


def lacking_base(slots, orders):
    """The rows of which each row without harmonics of these orders is a sum of whole multiples in just one way."""
    check_slots(slots)
    check_orders(orders, slots)
    common = product_of_orders(orders)
    spare = slots - len(common)
    return tuple(tuple([0] * shift + common + [0] * (spare - shift)) for shift in range(spare + 1))


def shares_of(row, orders):
    """The numbers with which the rows of the base add up to the row; None if it has a harmonic of these orders."""
    check_row(row)
    check_orders(orders, len(row))
    shares, remainder = divided(row, product_of_orders(orders))
    if any(number != 0 for number in remainder):
        return None
    return tuple(shares)


def phase_with(slots, harmonic, orders):
    """The phase with the fewest numbers that has the harmonic and none of these orders; None if there is none."""
    check_slots(slots)
    check_number(harmonic)
    check_orders(orders, slots)
    gone = (1, *[order for order in orders if order != 1])
    if order_of(slots, harmonic) in gone:
        return None
    common = product_of_orders(gone)
    return tuple(common + [0] * (slots - len(common)))
