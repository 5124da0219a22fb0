"""Parallel ways of a phase: the orders at which they are quiet, and sharings of groups into quiet ways."""

from math import gcd

from slotstars.errors import InvalidGroups, InvalidNumber, InvalidSharing, InvalidWays
from slotstars.lattices import check_orders
from slotstars.polynomials import polynomial_of, product_of_orders, remainder_by
from slotstars.rows import check_row, check_slots, wrong_phase
from slotstars.wholes import are_wholes, check_number, check_within, divisors_of, is_within

LEAST_WAYS = 2
MOST_WAYS = 8
MOST_GROUPS = 8


def check_ways(ways):
    """Raises InvalidWays for what are no ways."""
    if not isinstance(ways, tuple):
        raise InvalidWays(None)
    wrong = wrong_phase(ways, MOST_WAYS)
    if wrong is not None:
        raise InvalidWays(wrong)
    if len(ways) < LEAST_WAYS:
        raise InvalidWays(len(ways))


def check_groups(groups, most):
    """Raises InvalidGroups for what are no groups, or are more than so many."""
    if not isinstance(groups, tuple):
        raise InvalidGroups(None)
    wrong = wrong_phase(groups, most)
    if wrong is not None:
        raise InvalidGroups(wrong)
    if len(groups) == 0:
        raise InvalidGroups(0)


def check_sharing(sharing, many):
    """Raises InvalidSharing for what is no sharing of so many groups."""
    if not (are_wholes(sharing) and len(sharing) == many):
        raise InvalidSharing(sharing)
    ways = 0
    for way in sharing:
        if not is_within(way, 0, ways):
            raise InvalidSharing(sharing)
        ways = max(ways, way + 1)


def orders_for(slots, first, every):
    """The orders of all harmonics first + k * every."""
    check_slots(slots)
    check_number(first)
    check_number(every)
    return tuple(sorted({slots // gcd(first + turn * every, slots) for turn in range(slots)}))


def folded(row, many):
    """The row folded onto so many slots."""
    check_row(row)
    if not is_within(many, 1, len(row)) or len(row) % many != 0:
        raise InvalidNumber(many)
    return tuple(sum(row[slot::many]) for slot in range(many))


def folded_against(row, many):
    """The row folded onto so many slots, with a minus at each other fold."""
    check_row(row)
    if not is_within(many, 1, len(row)) or len(row) % (2 * many) != 0:
        raise InvalidNumber(many)
    return tuple(sum(row[slot::2 * many]) - sum(row[slot + many::2 * many]) for slot in range(many))


def loud_orders(ways):
    """The orders at which the ways do not all take up the same."""
    check_ways(ways)
    return tuple(order for order in divisors_of(len(ways[0])) if _is_loud(ways, order))


def _is_loud(ways, order):
    polynomial = polynomial_of(order)
    first = remainder_by(ways[0], polynomial)
    return any(remainder_by(way, polynomial) != first for way in ways)


def is_quiet(ways, orders):
    """Whether the ways take up the same of all harmonics of these orders."""
    check_ways(ways)
    check_orders(orders, len(ways[0]))
    return not any(_is_loud(ways, order) for order in orders)


def shared_ways(groups, sharing):
    """The ways that the sharing makes of the groups."""
    check_groups(groups, MOST_GROUPS)
    check_sharing(sharing, len(groups))
    return _sums_of_ways(groups, sharing)


def _sums_of_ways(rows, sharing):
    """The tuple of the sums of the rows of each way."""
    sums = []
    for way in range(max(sharing) + 1):
        shared = [row for row, place in zip(rows, sharing) if place == way]
        sums.append(tuple(sum(numbers) for numbers in zip(*shared)))
    return tuple(sums)


def sharings(groups, many, orders):
    """The ascending tuple of all sharings into so many ways that are quiet at these orders."""
    check_groups(groups, MOST_GROUPS)
    check_within(many, 1, MOST_WAYS)
    check_orders(orders, len(groups[0]))
    return _quiet_sharings(groups, many, orders)


def _quiet_sharings(groups, many, orders):
    # Ways are quiet at all told orders if their sums leave the same remainder by the product of the polynomials.
    common = product_of_orders(orders)
    remainders = [remainder_by(group, common) for group in groups]
    return tuple([sharing for sharing in _all_sharings(len(groups), many) if _leave_the_same(remainders, sharing)])


def _leave_the_same(remainders, sharing):
    sums = _sums_of_ways(remainders, sharing)
    return all(numbers == sums[0] for numbers in sums)


def _all_sharings(groups, many):
    """The ascending list of all sharings of so many groups into so many ways."""
    rows = [(0,)]
    for _ in range(groups - 1):
        rows = [(*row, way) for row in rows for way in range(min(max(row) + 2, many))]
    return [row for row in rows if max(row) == many - 1]


def most_ways(groups, orders):
    """The greatest number of ways into which the groups can be shared so that they are quiet at these orders."""
    check_groups(groups, MOST_GROUPS)
    check_orders(orders, len(groups[0]))
    for many in range(len(groups), 1, -1):
        if len(_quiet_sharings(groups, many, orders)) > 0:
            return many
    return 1
