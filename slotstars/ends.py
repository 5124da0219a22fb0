"""End turns: distances of slots, the least ends of coils that make a phase, and such coils."""

from slotstars.errors import InvalidSlot
from slotstars.rows import MOST_PHASES, check_coils, check_coils_fit, check_phase, check_slots, winding_of
from slotstars.wholes import is_within


def check_slot(slot, slots):
    """Raises InvalidSlot for what is none of so many slots."""
    if not is_within(slot, 0, slots - 1):
        raise InvalidSlot(slot)


def distance(slots, slot, other):
    """The number of steps from one slot to the other one, round the shorter way."""
    check_slots(slots)
    check_slot(slot, slots)
    check_slot(other, slots)
    return _distance(slots, slot, other)


def _distance(slots, slot, other):
    steps = abs(slot - other)
    return min(steps, slots - steps)


def flow(phase):
    """The sums of the numbers of the phase in the slots before each one."""
    check_phase(phase)
    sums = [0]
    for number in phase[:-1]:
        sums.append(sums[-1] + number)
    return tuple(sums)


def levels(phase):
    """The pair of the least and the greatest of the numbers that the flow is nearest to in sum."""
    sums = sorted(flow(phase))
    return (sums[(len(sums) - 1) // 2], sums[len(sums) // 2])


def least_ends(phase):
    """The least ends of coils that make the phase."""
    level, _ = levels(phase)
    return sum(abs(number - level) for number in flow(phase))


def short_coils(phase):
    """Coils of the phase 0 that make the phase and have the least ends."""
    level, _ = levels(phase)
    slots = len(phase)
    # From a step on that carries nothing, no coil has to pass by. What then is open has the one sign all the time, so
    # that each coil stays in a stretch of steps with this sign: these are at most half of all.
    first = flow(phase).index(level)
    coils = []
    opened = []
    for turn in range(slots):
        slot = (first + turn) % slots
        left = phase[slot]
        while left != 0 and len(opened) > 0 and (opened[-1][1] > 0) != (left > 0):
            start, waiting = opened.pop()
            many = min(abs(waiting), abs(left)) * (1 if waiting > 0 else -1)
            coils.append((0, start, slot, many))
            left += many
            if waiting != many:
                opened.append((start, waiting - many))
        if left != 0:
            opened.append((slot, left))
    return tuple(coils)


def ends_of(coils, slots):
    """The ends of the coils."""
    check_coils(coils)
    check_slots(slots)
    check_coils_fit(coils, slots, MOST_PHASES)
    return sum(_distance(slots, start, end) * abs(turns) for _, start, end, turns in coils)


def are_shortest(coils, slots):
    """Whether no coils that make the same in each phase have lesser ends."""
    ends = ends_of(coils, slots)
    return ends == sum(least_ends(phase) for phase in winding_of(coils, slots, MOST_PHASES))
